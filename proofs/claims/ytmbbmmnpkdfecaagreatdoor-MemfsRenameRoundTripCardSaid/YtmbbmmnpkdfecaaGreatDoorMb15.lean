/- Package memfs and what it calls, at this seat's translation.
   Condition: as each theorem states; this text: MfExec, MfLinks, MfMut, MfRes, MfEntry, MfRes2, MfReach, MfName. -/
import Derived.Test.YtmbbmmnpkdfecaaGreatDoorMb11
import Derived.Test.YtmbbmmnpkdfecaaGreatDoorMb14
import Derived.Test.YtmbbmmnpkdfecaaGreatDoorMb2
import Derived.Deep.RegionWith
import Derived.Test.YtmbbmmnpkdfecaaGreatDoorMb10
import Derived.Test.YtmbbmmnpkdfecaaGreatDoorMb9
import Derived.Test.YtmbbmmnpkdfecaaGreatDoorMb5
import Derived.Deep.QuietTactic
import Derived.Deep.RegionHeld3
import Derived.Test.YtmbbmmnpkdfecaaGreatDoorMb1

set_option linter.all false

/- An execution in memory as its methods read it: the tree and the request behind a pointer; allows, isFull, links. Conditions: the execution lies in memory as it reads; the inode's number lies within the tree. -/

set_option linter.all false
namespace Go.Proofs.YtmbbmmnpkdfecaaGreatDoor
open Go.RowKit

/-- The cells of an execution. -/
def xL (n g cap : Nat) (r : Rq) (vd va : Value) : List Value := [.slice (some ⟨g, 0, none⟩) n cap, .int .i64 r.k, .int .i64 r.u, .string r.p, .string r.t, .int .i64 r.off, .int .i64 r.sz, vd, va, .string r.a.n, .string r.a.v]
/-- An execution as it is read. -/
structure XR (w : World) (X g cap : Nat) (t : FT) (r : Rq) (vd va : Value) : Prop where
  b : Blk w X (xL t.length g cap r vd va)
  nd : FNods w w.heap.size (some ⟨g, 0, none⟩) cap t
  rq : RqS w w.heap.size vd va r
  fit : ∀ j, j < t.length → Fit (ino t j)
  len : t.length ≤ 40
theorem XR.up {w w' : World} {X g cap : Nat} {t : FT} {r : Rq} {vd va : Value} (h : XR w X g cap t r vd va) (hb : Below w.heap.size w w') : XR w' X g cap t r vd va :=
  ⟨h.b.up hb, h.nd.up hb, h.rq.up hb, h.fit, h.len⟩
/-- One inode of an execution's tree. -/
theorem XR.one {w : World} {X g cap : Nat} {t : FT} {r : Rq} {vd va : Value} (h : XR w X g cap t r vd va) {n : Nat} (hn : n < t.length) : g < w.heap.size ∧ ∃ s : Sl, NodC w g (n * 8) s.e s.d s.a s.x (ino t n).nod ∧ NodS w w.heap.size s.e s.d s.a s.x (ino t n).nod ∧ Byts w w.heap.size s.d (ino t n).d := by
  obtain ⟨b, o, ha, hb, hj⟩ := h.nd.at_ (by omega)
  injection ha with ha
  injection ha with h1 h2 _
  subst h1 h2
  have := hj n hn
  rw [Nat.zero_add] at this
  exact ⟨hb, this⟩

/-- What a user may do to an inode. -/
def alw (t : FT) (n : Nat) (u m : Int) : Bool := allB (ino t n).ac (ino t n).o u m

set_option maxRecDepth 100000 in
set_option maxHeartbeats 4000000 in
theorem allows_any (X g cap : Nat) (t : FT) (r : Rq) (vd va : Value) (n : Nat) (m : Int) (w : World) (h : XR w X g cap t r vd va) (hn : n < t.length) :
    Calls Tryz.prog 129 #[.pointer (some ⟨X, 0, none⟩), .int .i64 (n : Int), .int .i64 m] w fun e w' => e = .returned (.bool (alw t n r.u m)) ∧ Below w.heap.size w w' := by
  obtain ⟨hg, ⟨se, sd, sa, sx⟩, hc, hs, hby⟩ := h.one hn
  obtain ⟨ea, ec, rfl, _⟩ := hs.es
  obtain ⟨da, dc, rfl, _⟩ := hs.dl
  obtain ⟨aa, ac, rfl, _⟩ := id hs.ac
  obtain ⟨xa, xc, rfl, _⟩ := hs.xs
  have CA := Lib.hid (fun W (hb : Below w.heap.size w W) => allowed_any _ (ino t n).nod.ac (ino t n).nod.o r.u m W ((hs.ac.keep (w' := W) fun b o hB => hb.cell (p := ⟨b, o, none⟩) hB).more hb.size))
  have hQ := Lib.hid (show alw t n r.u m = allB (ino t n).nod.ac (ino t n).nod.o r.u m from rfl)
  have c0 := hc.c0
  have c1 := hc.c1
  have c2 := hc.c2
  have c3 := hc.c3
  have c4 := hc.c4
  have c5 := hc.c5
  have c6 := hc.c6
  have c7 := hc.c7
  have x0 := h.b.c 0 _ rfl
  have x2 := h.b.c 2 _ rfl
  have xl := h.b.lt
  have hnz : (n : Int) < (t.length : Int) := by omega
  have hn0 : (0 : Int) ≤ (n : Int) := Int.natCast_nonneg _
  have h40 := h.len
  clear hc hs hby h
  unfold allV at CA
  generalize (allC (ino t n).nod.ac (ino t n).nod.o r.u m).1 = fc at *
  generalize (allC (ino t n).nod.ac (ino t n).nod.o r.u m).2 = fi at *
  generalize allB (ino t n).nod.ac (ino t n).nod.o r.u m = q at *
  rw [hQ.out]
  clear hQ
  generalize (ino t n).nod = nd at *
  generalize r.u = u at *
  generalize t.length = L at *
  generalize nd.ac.length = na at *
  generalize nd.es.length = ne at *
  generalize nd.xs.length = nx at *
  have U0 := Lib.hid (show Below w.heap.size w (w.alloc (.cells #[.int .i64 nd.k, .int .i64 nd.o, .slice ea ne ec, .slice da nd.dl dc, .slice aa na ac, .slice xa nx xc, .int .i64 nd.q, .int .i64 nd.v] 63)) from (Below.refl _ _).alloc (Nat.le_refl _) _)
  have XX := Lib.hid (U0.out.cell (p := ⟨X, 2, none⟩) xl)
  have xl2 : X < w.heap.size + 1 := by omega
  go_enter Tryz.func129, Tryz.ntmps129
  go_upto_region 2 with fail
  have x2' := XX.out.trans x2
  have d1 : (w.alloc (.cells #[.int .i64 nd.k, .int .i64 nd.o, .slice ea ne ec, .slice da nd.dl dc, .slice aa na ac, .slice xa nx xc, .int .i64 nd.q, .int .i64 nd.v] 63)).cell? ⟨w.heap.size, 1, none⟩ = some (.int .i64 nd.o) := by simp
  have d4 : (w.alloc (.cells #[.int .i64 nd.k, .int .i64 nd.o, .slice ea ne ec, .slice da nd.dl dc, .slice aa na ac, .slice xa nx xc, .int .i64 nd.q, .int .i64 nd.v] 63)).cell? ⟨w.heap.size, 4, none⟩ = some (.slice aa na ac) := by simp
  have hsz : (w.alloc (.cells #[.int .i64 nd.k, .int .i64 nd.o, .slice ea ne ec, .slice da nd.dl dc, .slice aa na ac, .slice xa nx xc, .int .i64 nd.q, .int .i64 nd.v] 63)).heap.size = w.heap.size + 1 := by simp
  have HSZ := Lib.hid hsz
  generalize hw1 : w.alloc _ = w1 at *
  clear hw1 hsz XX x0 x2 c0 c1 c2 c3 c4 c5 c6 c7
  have nl : w.heap.size < w1.heap.size := by rw [HSZ.out]; omega
  have xl1 : X < w1.heap.size := by omega
  go_cut [8, 9] from 18 to 31 (fun s8 s9 wx => s8 = .bool q ∧ (∃ A : Nat, s9 = .pointer (some ⟨A, 0, none⟩)) ∧ Below w1.heap.size w1 wx)
  case first =>
    have HB1 := Lib.hid (show Below w1.heap.size w1 w1.drew from (Below.refl w1.heap.size w1).drew)
    have HB2 := Lib.hid (show Below w1.heap.size w1 (w1.alloc (.cells #[.int .i64 0, .int .i64 0] 37)).drew from ((Below.refl w1.heap.size w1).alloc (Nat.le_refl _) _).drew)
    have HF2 := Lib.hid ((FBox.new w1 0 0 37).below (Below.refl _ _).drew (FBox.new w1 0 0 37).lt)
    have m1 := World.new_ne w1 ⟨w.heap.size, 1, none⟩ d1
    have m4 := World.new_ne w1 ⟨w.heap.size, 4, none⟩ d4
    have m2 := World.new_ne w1 ⟨X, 2, none⟩ x2'
    go_region_held3 (fun y => y.cell? ⟨w.heap.size, 1, none⟩ = some (.int .i64 nd.o) ∧ y.cell? ⟨w.heap.size, 4, none⟩ = some (.slice aa na ac) ∧ y.cell? ⟨X, 2, none⟩ = some (.int .i64 u))
      (first | go_keep | exact ⟨k1, k4, k2⟩)
      (first
      | (go_at_call 162; (first
        | (refine (CA.out _ (U0.out.trans (HB1.out.mono U0.out.size))).mono ?_; rintro e z ⟨rfl, hb9⟩; have hbz := HB1.out.trans (hb9.mono HB1.out.size); have k1 := (hbz.cell (p := ⟨w.heap.size, 1, none⟩) nl).trans d1; have k4 := (hbz.cell (p := ⟨w.heap.size, 4, none⟩) nl).trans d4; have k2 := (hbz.cell (p := ⟨X, 2, none⟩) xl1).trans x2'; have m1z := World.new_ne z ⟨w.heap.size, 1, none⟩ k1; have m4z := World.new_ne z ⟨w.heap.size, 4, none⟩ k4; have m2z := World.new_ne z ⟨X, 2, none⟩ k2)
        | (refine (CA.out _ (U0.out.trans (HB2.out.mono U0.out.size))).mono ?_; rintro e z ⟨rfl, hb9⟩; have hbz := HB2.out.trans (hb9.mono HB2.out.size); have k1 := (hbz.cell (p := ⟨w.heap.size, 1, none⟩) nl).trans d1; have k4 := (hbz.cell (p := ⟨w.heap.size, 4, none⟩) nl).trans d4; have k2 := (hbz.cell (p := ⟨X, 2, none⟩) xl1).trans x2'; obtain ⟨lz, z0, z1, zf0, zf1⟩ := HF2.out.below hb9 HF2.out.lt)
        | fail)))
    all_goals
      go_wp2_with fail
      go_meet
      case rel =>
        first
          | exact ⟨rfl, ⟨_, rfl⟩, hbz.alloc hbz.size _⟩
          | exact ⟨rfl, ⟨_, rfl⟩, (hbz.setCell (Nat.le_refl _) _).setCell (Nat.le_refl _) _⟩
  case rest =>
    obtain ⟨rfl, ⟨A, rfl⟩, bx⟩ := hcut
    have BX := Lib.hid (U0.out.trans (bx.mono U0.out.size))
    go_wp2
    go_ret
    exact ⟨rfl, BX.out⟩

set_option maxHeartbeats 1000000 in
theorem isFull_any (X g cap : Nat) (t : FT) (r : Rq) (vd va : Value) (n : Nat) (w : World) (h : XR w X g cap t r vd va) (hn : n < t.length) :
    Calls Tryz.prog 123 #[.pointer (some ⟨X, 0, none⟩), .int .i64 (n : Int)] w fun e w' => e = .returned (.bool (decide ((ino t n).es.length = 16))) ∧ w' = w := by
  obtain ⟨hg, ⟨se, sd, sa, sx⟩, hc, hs, _⟩ := h.one hn
  obtain ⟨ea, ec, rfl, _⟩ := hs.es
  have c2 : w.cell? ⟨g, n * 8 + 2, none⟩ = some (.slice ea (ino t n).es.length ec) := hc.c2
  have x0 := h.b.c 0 _ rfl
  have xl := h.b.lt
  have hnz : (n : Int) < (t.length : Int) := by omega
  have hn0 : (0 : Int) ≤ (n : Int) := Int.natCast_nonneg _
  have h40 := h.len
  clear hc hs h
  have HD : Hid (decide ((ino t n).es.length = 16) = (((ino t n).es.length : Int) == 16)) := Lib.hid (by rw [Bool.eq_iff_iff]; simp <;> try omega)
  generalize decide ((ino t n).es.length = 16) = q at *
  generalize (ino t n).es.length = m at *
  generalize hb : ((m : Int) == 16) = q2 at *
  have HQ := Lib.hid hb
  clear hb
  generalize t.length = L at *
  go_enter Tryz.func123, Tryz.ntmps123
  go_wp2
  all_goals
    go_ret
    refine ⟨ret_bool ?_, rfl⟩
    rw [HD.out, ← HQ.out]
    try first | rfl | simp_all

end Go.Proofs.YtmbbmmnpkdfecaaGreatDoor

/- links of package memfs: how many entries refer to an inode. Conditions: the execution lies in memory as it reads. -/

set_option linter.all false
namespace Go.Proofs.YtmbbmmnpkdfecaaGreatDoor
open Go.RowKit

theorem upto_le {t : FT} (hf : ∀ j, j < t.length → Fit (ino t j)) (h40 : t.length ≤ 40) (i k n : Nat) (hi : i ≤ t.length) (hk : k ≤ (kids (tr t) i).length) : cntE (upto (tr t) i k) n ≤ 100000 := by
  have h1 : cntE (upto (tr t) i k) n ≤ (upto (tr t) i k).length := List.countP_le_length
  have h2 : (upto (tr t) i k).length ≤ 100000 := by
    have hk2 : ∀ j, (kids (tr t) j).length ≤ 1000 := fun j => by
      rw [kids_tr]
      rcases Nat.lt_or_ge j t.length with hl | hl
      · exact (hf j hl).le
      · rw [ino_past hl]; simp
    unfold upto
    rw [List.length_append, List.length_flatMap]
    have h3 := sum_le_mul (l := ((tr t).take i).map fun x => x.es.length) (m := 1000) (by
      intro x hx
      obtain ⟨y, hy, rfl⟩ := List.mem_map.1 hx
      obtain ⟨j, hj, rfl⟩ := List.mem_iff_getElem.1 (List.mem_of_mem_take hy)
      have := hk2 j
      unfold kids at this
      rwa [nod_at hj] at this)
    simp only [List.length_map, List.length_take] at h3
    have h4 := hk2 i
    have h5 : (List.take k (kids (tr t) i)).length ≤ 1000 := by simp; omega
    have h6 : min i (tr t).length * 1000 ≤ 40 * 1000 := Nat.mul_le_mul_right _ (by simp; omega)
    omega
  omega

set_option maxRecDepth 100000 in
set_option maxHeartbeats 3200000 in
theorem links_any (X g cap : Nat) (t : FT) (r : Rq) (vd va : Value) (n : Nat) (w : World) (h : XR w X g cap t r vd va) :
    Calls Tryz.prog 72 #[.pointer (some ⟨X, 0, none⟩), .int .i64 (n : Int)] w fun e w' => e = .returned (.int .i64 (refs (tr t) n : Nat)) ∧ Below w.heap.size w w' := by
  have H := Lib.hid h
  have h40 := h.len
  have hU := Lib.hid (show cntE (upto (tr t) 0 0) n = 0 by rw [upto_zero]; rfl)
  have hA := Lib.hid (show cntE (upto (tr t) t.length 0) n = refs (tr t) n by have := upto_all (tr t) n; rwa [tr_len] at this)
  have x0 := h.b.c 0 _ rfl
  have xl := h.b.lt
  clear h
  go_enter Tryz.func72, Tryz.ntmps72
  go_wp2_with fail
  go_loopg [5, 7, 9, 16] t.length (fun gg s5 _ _ s16 wr => ∃ i : Nat, i ≤ t.length ∧ t.length - i ≤ gg ∧ s5 = .int .i64 (cntE (upto (tr t) i 0) n : Nat) ∧ s16 = .int .i64 i ∧ Aside (Below w.heap.size w wr))
  case atStart => exact ⟨0, by omega, by omega, by rw [hU.out]; rfl, rfl, Below.refl _ _⟩
  case round =>
    obtain ⟨i, hi, hg, rfl, rfl, B⟩ := hrel
    obtain ⟨w2, rfl⟩ : ∃ w2 : World, w2 = wr := ⟨_, rfl⟩
    clear hU x0 xl
    by_cases hlt : i < t.length
    · have hltz : (i : Int) < (t.length : Int) := by omega
      have hi0 : (0 : Int) ≤ (i : Int) := Int.natCast_nonneg _
      have hm9 : t.length - (i + 1) < t.length - i := Nat.sub_lt_sub_left hlt (Nat.lt_succ_self i)
      obtain ⟨hgl, ⟨se, sd, sa, sx⟩, hc, hs, _⟩ := (H.out.up B.out).one hlt
      obtain ⟨ea, ec, rfl, hec, hel, hef, hex⟩ := hs.es
      obtain ⟨da, dc, rfl, _⟩ := hs.dl
      obtain ⟨aa, ac, rfl, _⟩ := hs.ac
      obtain ⟨xa, xc, rfl, _⟩ := hs.xs
      have c0 := hc.c0
      have c1 := hc.c1
      have c2 := hc.c2
      have c3 := hc.c3
      have c4 := hc.c4
      have c5 := hc.c5
      have c6 := hc.c6
      have c7 := hc.c7
      have hki : (ino t i).nod.es = kids (tr t) i := (kids_tr t i).symm
      rw [hki] at hec hel c2 hex
      have HEX := Lib.hid (show 0 < (kids (tr t) i).length → ∃ b o, ea = some ⟨b, o, none⟩ ∧ b < w2.heap.size ∧ ∀ j, j < (kids (tr t) i).length →
        w2.cell? ⟨b, o + j * 2, none⟩ = some (.string ((kids (tr t) i).getD j D0).n) ∧ w2.cell? ⟨b, o + j * 2 + 1, none⟩ = some (.int .i64 ((kids (tr t) i).getD j D0).i) from hex)
      have HCL := Lib.hid (fun k hk => upto_le H.out.fit H.out.len i k n hi hk)
      have HUN := Lib.hid (upto_next (t := tr t) (by simpa using hlt))
      have HST := Lib.hid (fun (k q : Nat) (x : ByteArray) (ei : Int) => cnt_step (t := tr t) (i := i) (k := k) (n := n) (q := q) (x := x) (ei := ei))
      have BI := Lib.hid (B.out.alloc B.out.size (.cells #[.int .i64 (ino t i).nod.k, .int .i64 (ino t i).nod.o, .slice ea (kids (tr t) i).length ec, .slice da (ino t i).nod.dl dc, .slice aa (ino t i).nod.ac.length ac, .slice xa (ino t i).nod.xs.length xc, .int .i64 (ino t i).nod.q, .int .i64 (ino t i).nod.v] 63))
      clear hc hs hef hex hki
      generalize (ino t i).nod = nd at *
      generalize nd.ac.length = na at *
      generalize nd.xs.length = nx at *
      generalize hm : (kids (tr t) i).length = m at *
      have hsz2 := BI.out.size
      go_wp2_with fail
      go_loopg [5, 9, 23] m (fun gg s5 _ s23 wq => ∃ k : Nat, k ≤ m ∧ m - k ≤ gg ∧ s5 = .int .i64 (cntE (upto (tr t) i k) n : Nat) ∧ s23 = .int .i64 k ∧ Aside (Below w2.heap.size w2 wq))
      case atStart => exact ⟨0, by omega, by omega, rfl, rfl, (Below.refl _ _).alloc (Nat.le_refl _) _⟩
      case round =>
        obtain ⟨k, hk, hg2, rfl, rfl, BQ⟩ := hrel
        obtain ⟨w3, rfl⟩ : ∃ w3 : World, w3 = wr := ⟨_, rfl⟩
        clear c0 c1 c2 c3 c4 c5 c6 c7
        by_cases hlk : k < m
        · have hlkz : (k : Int) < (m : Int) := by omega
          have hk0 : (0 : Int) ≤ (k : Int) := Int.natCast_nonneg _
          obtain ⟨be, oe, rfl, hbe, hje⟩ := HEX.out (by omega)
          have g0 := (BQ.out.cell (p := ⟨be, oe + k * 2, none⟩) hbe).trans (hje k hlk).1
          have g1 := (BQ.out.cell (p := ⟨be, oe + k * 2 + 1, none⟩) hbe).trans (hje k hlk).2
          have hcb := HCL.out k (by omega)
          have hbq := BQ.out.size
          clear hje
          generalize hy : (kids (tr t) i).getD k D0 = e at *
          obtain ⟨x, ei⟩ := e
          simp only at g0 g1
          generalize hq : cntE (upto (tr t) i k) n = q at *
          have HS := Lib.hid (HST.out k q x ei (by omega) hy hq)
          have BK := Lib.hid (BQ.out.alloc hbq (.cells #[.string x, .int .i64 ei] 93))
          clear hy hq
          by_cases he : ei = (n : Int)
          · subst he
            rw [if_pos rfl] at HS
            go_wp2
            go_roundg (m - (k + 1))
            case measure => omega
            case rel => exact ⟨k + 1, by omega, by omega, by rw [HS.out]; go_num, by go_num, BK.out⟩
          · have he2 : (ei == (n : Int)) = false := by simpa using he
            rw [if_neg he] at HS
            clear he
            go_wp2
            go_roundg (m - (k + 1))
            case measure => omega
            case rel => exact ⟨k + 1, by omega, by omega, by rw [HS.out]; rfl, by go_num, BK.out⟩
        · obtain rfl : k = m := by omega
          have hbq := BQ.out.size
          have BK := Lib.hid (B.out.trans (BQ.out.mono B.out.size))
          go_wp2
          go_roundg (t.length - (i + 1))
          case measure => exact Nat.lt_of_lt_of_le hm9 hg
          case rel => exact ⟨i + 1, by omega, by omega, by rw [← HUN.out], by go_num, BK.out⟩
    · obtain rfl : i = t.length := by omega
      go_wp2
      go_ret
      exact ⟨ret_int (by rw [hA.out]), B.out⟩

end Go.Proofs.YtmbbmmnpkdfecaaGreatDoor

/- An execution that a call owns, as its methods change it; touch. Conditions: the execution is the call's own; the request's slices lie below what it owns. -/

set_option linter.all false
namespace Go.Proofs.YtmbbmmnpkdfecaaGreatDoor
open Go.RowKit

/-- An execution whose tree the call owns. -/
structure XO (w : World) (base X g cap : Nat) (sl : Nat → Sl) (t : FT) (r : Rq) (vd va : Value) : Prop where
  ot : OT w base g cap sl t
  x : w.ownsRow base 78 11 (.slice (some ⟨X, 0, none⟩) 1 1) 1 (xL t.length g cap r vd va)
  rq : RqS w base vd va r
  len : t.length ≤ 40
theorem XO.base {w : World} {base X g cap : Nat} {sl : Nat → Sl} {t : FT} {r : Rq} {vd va : Value} (h : XO w base X g cap sl t r vd va) : base ≤ w.heap.size ∧ base ≤ g ∧ g < w.heap.size ∧ base ≤ X ∧ X < w.heap.size ∧ X ≠ g := by
  have h1 := h.ot.lt
  have h2 := h.x.lt X rfl
  obtain ⟨cs, ho⟩ := h.ot.own
  have h3 := own_apart ho h.x (by decide) (g := g) rfl
  refine ⟨by omega, h1.1, h1.2, h2.1, h2.2, fun e => h3 (by rw [← e]; rfl)⟩
theorem XO.xr {w : World} {base X g cap : Nat} {sl : Nat → Sl} {t : FT} {r : Rq} {vd va : Value} (h : XO w base X g cap sl t r vd va) : XR w X g cap t r vd va := by
  have hb := h.base
  refine ⟨⟨hb.2.2.2.2.1, fun j v hj => ?_, fun j _ => h.x.frozenAt j⟩, h.ot.fnods, h.rq.more hb.1, h.ot.fit, h.len⟩
  have hl : j < 11 := (List.getElem?_eq_some_iff.1 hj).1
  rw [h.x.cellAt j (by omega)]
  exact hj
theorem XO.up {w w' : World} {base X g cap : Nat} {sl : Nat → Sl} {t : FT} {r : Rq} {vd va : Value} (h : XO w base X g cap sl t r vd va) (hb : Below w.heap.size w w') : XO w' base X g cap sl t r vd va :=
  ⟨h.ot.up hb, own_kept h.x (grown_below hb) (fun g e => by cases e), h.rq.keep (fun b o hB => hb.cell (p := ⟨b, o, none⟩) (Nat.lt_of_lt_of_le hB h.base.1)), h.len⟩
/-- Blocks of other types than a tree's own stay as they are. -/
def Typ (w w' : World) : Prop := ∀ (k : Nat) (c : Array Value) (ty : TypeId) (fz : Nat × Nat), w.heap[k]? = some (Obj.cells c ty fz) → ty ≠ 63 → ty ≠ 93 → ty ≠ 78 → w'.heap[k]? = w.heap[k]?
theorem Typ.trans {a b c : World} (h : Typ a b) (k : Typ b c) : Typ a c := fun i x ty fz hi h1 h2 h3 => by
  have e := h i x ty fz hi h1 h2 h3
  rw [k i x ty fz (e.trans hi) h1 h2 h3, e]
theorem Typ.of_below {w w' : World} (h : Below w.heap.size w w') : Typ w w' := fun k _ _ _ hk _ _ _ => h.block k (own_lt hk)
theorem own_typ {w : World} {base size n : Nat} {e : TypeId} {v : Value} {xs : List Value} (h : w.ownsRow base e size v n xs) {q : Nat} (hq : v.ownBlock = some q) : ∃ c : Array Value, w.heap[q]? = some (Obj.cells c e (0, 0)) := by
  rcases h.2 with ⟨hv, _⟩ | ⟨g, cap, cur, hv, _, hg, _⟩
  · rw [hv] at hq; cases hq
  · rw [hv] at hq; injection hq with hq; subst hq; exact ⟨cur, hg⟩
theorem Typ.of_grown {w w1 : World} {row : Option Nat} {T : TypeId} (hg : w.grownBy w1 row) (hrow : ∀ q, row = some q → ∃ c : Array Value, w.heap[q]? = some (Obj.cells c T (0, 0))) (hT : T = 63 ∨ T = 93) : Typ w w1 := fun k x ty fz hk h1 h2 _ =>
  hg.block k (own_lt hk) (fun e => by
    obtain ⟨c, hc⟩ := hrow k e.symm
    rw [hc] at hk
    injection hk with hk
    injection hk with _ hk _
    subst hk
    rcases hT with rfl | rfl
    · exact h1 rfl
    · exact h2 rfl)
theorem XO.putT {w : World} {base X g cap : Nat} {sl : Nat → Sl} {t : FT} {r : Rq} {vd va : Value} (h : XO w base X g cap sl t r vd va) (j : Nat) (u : Value) : Typ w (w.setCell ⟨g, j, none⟩ u) := by
  obtain ⟨cs, ho⟩ := h.ot.own
  exact Typ.of_grown (T := 63) (ho.stored j u).2 (fun q e => own_typ ho e) (.inl rfl)
/-- What a method that changes the tree leaves. -/
def MutP (base X : Nat) (r : Rq) (vd va : Value) (t' : FT) (w w' : World) : Prop := ∃ g cap sl, XO w' base X g cap sl t' r vd va ∧ Below base w w' ∧ Typ w w'
/-- One cell of one inode is stored. -/
theorem XO.put {w : World} {base X g cap : Nat} {sl : Nat → Sl} {t : FT} {r : Rq} {vd va : Value} (h : XO w base X g cap sl t r vd va) {j : Nat} (hj : j < t.length) {i : Nat} (hi : i < 8) (u : Value) (x' : Ino) (s' : Sl)
    (hc : inoL x' s' = (inoL (ino t j) (sl j)).set i u) (hr : Rws w base s' x') (hf : Fit x') (hne : ∀ k, k < t.length → k ≠ j → ∀ b, (sl k).e.ownBlock = some b → s'.e.ownBlock ≠ some b) :
    XO (w.setCell ⟨g, j * 8 + i, none⟩ u) base X g cap (upd sl j s') (t.set j x') r vd va := by
  obtain ⟨h1, h2⟩ := h.ot.store hj hi u x' s' hc hr hf hne
  have hb := h.base
  refine ⟨h1, ?_, h.rq.keep (fun b o hB => World.cell?_setCell_other w _ _ u (fun e => by have := congrArg Addr.block e; simp at this; omega)), by rw [List.length_set]; exact h.len⟩
  rw [List.length_set]
  refine own_kept h.x h2 (fun q e => ?_)
  injection e with e
  subst e
  intro e
  injection e with e
  exact hb.2.2.2.2.2 e
theorem XO.putB {w : World} {base X g cap : Nat} {sl : Nat → Sl} {t : FT} {r : Rq} {vd va : Value} (h : XO w base X g cap sl t r vd va) (j : Nat) (u : Value) : Below base w (w.setCell ⟨g, j, none⟩ u) :=
  (Below.refl base w).setCell (p := ⟨g, j, none⟩) h.base.2.1 u

/-- An inode changed once more. -/
def tchI (x : Ino) : Ino := { x with v := min (x.v + 1) 1000000 }
def touchF (t : FT) (n : Nat) : FT := chI t n tchI

set_option maxHeartbeats 2000000 in
theorem touch_any (base X g cap : Nat) (sl : Nat → Sl) (t : FT) (r : Rq) (vd va : Value) (n : Nat) (w : World) (h : XO w base X g cap sl t r vd va) (hn : n < t.length) (hv : 0 ≤ (ino t n).v ∧ (ino t n).v ≤ 1000000) :
    Calls Tryz.prog 127 #[.pointer (some ⟨X, 0, none⟩), .int .i64 (n : Int)] w fun e w' => e = .returned (.tuple #[]) ∧ MutP base X r vd va (touchF t n) w w' := by
  have HX := Lib.hid h.xr
  have hb := h.base
  have x0 := HX.out.b.c 0 _ rfl
  have xl := HX.out.b.lt
  have hcn := h.ot.c n hn
  have c7 := hcn 7 _ rfl
  have f7 := h.ot.frozen (n * 8 + 7)
  have hg := h.ot.lt.2
  have hi0 := (h.ot.fit n hn)
  have HP := Lib.hid (show MutP base X r vd va (touchF t n) w (w.setCell ⟨g, n * 8 + 7, none⟩ (.int .i64 (min ((ino t n).v + 1) 1000000))) from
    ⟨g, cap, upd sl n (sl n), h.put hn (by omega) _ (tchI (ino t n)) (sl n) rfl ⟨(h.ot.r n hn).e, (h.ot.r n hn).d, (h.ot.r n hn).a, (h.ot.r n hn).x⟩
      ⟨hi0.k, hi0.o, hi0.q, by unfold tchI i64; simp only; omega, hi0.es, hi0.ac, hi0.xs, hi0.le, hi0.ld, hi0.la, hi0.lx⟩
      (fun k hk hkn b hb => h.ot.ne k n hk hn hkn b hb), h.putB _ _, h.putT _ _⟩)
  have nz : (n : Int) < (t.length : Int) := by omega
  have n0 : (0 : Int) ≤ (n : Int) := Int.natCast_nonneg _
  have h40 := h.len
  have hw : IntKind.i64.wrap ((ino t n).v + 1) = (ino t n).v + 1 := IntWalk.i64_in _ (by omega)
  clear h hcn hi0 hb HX
  generalize (ino t n).v = v at *
  generalize t.length = L at *
  go_enter Tryz.func127, Tryz.ntmps127
  go_wp2
  exact ⟨rfl, .tuple #[], by simp [results, Tryz.results127, go_sem]; try rfl, rfl, HP.out⟩

end Go.Proofs.YtmbbmmnpkdfecaaGreatDoor

/- resolve of package memfs: where a path leads, or the code of the first error on the way. Conditions: the execution lies in memory as it reads; the tree's inodes are valid by themselves. -/

set_option linter.all false
namespace Go.Proofs.YtmbbmmnpkdfecaaGreatDoor
open Go.RowKit

/-- Where a path leads: the parent, the last component, the inode or -1. -/
structure Pl where
  p : Nat
  n : ByteArray
  i : Int
abbrev P0 : Pl := ⟨0, ByteArray.empty, 0⟩
def resP (t : FT) (u : Int) : List ByteArray → Pl → Pl × Int
  | [], a => (a, 0)
  | c :: cs, a => if a.i = -1 then (P0, 6) else if (ino t a.i.toNat).k = 2 then (P0, 8) else if alw t a.i.toNat u 4 = false then (P0, 13) else resP t u cs ⟨a.i.toNat, c, lookE (ino t a.i.toNat).es c⟩
def resolveF (t : FT) (u : Int) (p : ByteArray) : Pl × Int := resP t u (splitL p) P0
def plV (a : Pl) : Value := .agg #[.int .i64 (a.p : Int), .string a.n, .int .i64 a.i]
theorem resP_miss {t : FT} {u : Int} {xs : List ByteArray} {i : Nat} {a : Pl} (hi : i < xs.length) (h : a.i = -1) : resP t u (xs.drop i) a = (P0, 6) := by
  rw [List.drop_eq_getElem_cons hi, resP, if_pos h]
theorem resP_file {t : FT} {u : Int} {xs : List ByteArray} {i : Nat} {a : Pl} (hi : i < xs.length) (h : a.i ≠ -1) (hk : (ino t a.i.toNat).k = 2) : resP t u (xs.drop i) a = (P0, 8) := by
  rw [List.drop_eq_getElem_cons hi, resP, if_neg h, if_pos hk]
theorem resP_no {t : FT} {u : Int} {xs : List ByteArray} {i : Nat} {a : Pl} (hi : i < xs.length) (h : a.i ≠ -1) (hk : (ino t a.i.toNat).k ≠ 2) (hq : alw t a.i.toNat u 4 = false) : resP t u (xs.drop i) a = (P0, 13) := by
  rw [List.drop_eq_getElem_cons hi, resP, if_neg h, if_neg hk, if_pos hq]
theorem resP_step {t : FT} {u : Int} {xs : List ByteArray} {i : Nat} {a : Pl} (hi : i < xs.length) (h : a.i ≠ -1) (hk : (ino t a.i.toNat).k ≠ 2) (hq : alw t a.i.toNat u 4 = true) : resP t u (xs.drop i) a = resP t u (xs.drop (i + 1)) ⟨a.i.toNat, xs.getD i ByteArray.empty, lookE (ino t a.i.toNat).es (xs.getD i ByteArray.empty)⟩ := by
  rw [List.drop_eq_getElem_cons hi, resP, if_neg h, if_neg hk, if_neg (by rw [hq]; simp), getD_eq hi]
theorem resP_end {t : FT} {u : Int} {xs : List ByteArray} {a : Pl} : resP t u (xs.drop xs.length) a = (a, 0) := by rw [List.drop_length, resP]
theorem look_range {t : FT} (h1 : Ok1 (tr t)) (n : Nat) (x : ByteArray) : lookE (ino t n).es x = -1 ∨ (0 < lookE (ino t n).es x ∧ (lookE (ino t n).es x).toNat < t.length) := by
  unfold lookE
  cases hf : fndE (ino t n).es x with
  | false => exact .inl (by simp)
  | true =>
    rw [if_pos rfl]
    have := kid_found h1 (n := n) (x := x) (by rw [kids_tr]; exact hf)
    rw [kids_tr, tr_len] at this
    exact .inr ⟨this.2.1, this.2.2.1⟩

/-- A block that holds a place. -/
structure PB (w : World) (n : Nat) (a : Pl) : Prop where
  lt : n < w.heap.size
  c0 : w.cell? ⟨n, 0, none⟩ = some (.int .i64 (a.p : Int))
  c1 : w.cell? ⟨n, 1, none⟩ = some (.string a.n)
  c2 : w.cell? ⟨n, 2, none⟩ = some (.int .i64 a.i)
  f0 : w.frozen? ⟨n, 0, none⟩ = false
  f1 : w.frozen? ⟨n, 1, none⟩ = false
  f2 : w.frozen? ⟨n, 2, none⟩ = false
theorem PB.below {w w' : World} {B n : Nat} {a : Pl} (h : PB w n a) (hb : Below B w w') (hn : n < B) : PB w' n a :=
  ⟨Nat.lt_of_lt_of_le h.lt hb.size, (hb.cell (p := ⟨n, 0, none⟩) hn).trans h.c0, (hb.cell (p := ⟨n, 1, none⟩) hn).trans h.c1, (hb.cell (p := ⟨n, 2, none⟩) hn).trans h.c2,
    (hb.frozen (p := ⟨n, 0, none⟩) hn).trans h.f0, (hb.frozen (p := ⟨n, 1, none⟩) hn).trans h.f1, (hb.frozen (p := ⟨n, 2, none⟩) hn).trans h.f2⟩
theorem PB.up {w w' : World} {n : Nat} {a : Pl} (h : PB w n a) (hb : Below w.heap.size w w') : PB w' n a := h.below hb h.lt
theorem PB.at_ {w : World} {n n' : Nat} {a : Pl} (h : PB w n a) (e : n = n') : PB w n' a := e ▸ h
theorem PB.new (w : World) (a : Pl) (ty : TypeId) : PB (w.alloc (.cells #[.int .i64 (a.p : Int), .string a.n, .int .i64 a.i] ty)) w.heap.size a := ⟨by simp, by simp, by simp, by simp, by simp, by simp, by simp⟩
theorem PB.put {w : World} {n : Nat} {a : Pl} (h : PB w n a) (b : Pl) : PB (((w.setCell ⟨n, 0, none⟩ (.int .i64 (b.p : Int))).setCell ⟨n, 1, none⟩ (.string b.n)).setCell ⟨n, 2, none⟩ (.int .i64 b.i)) n b := by
  have e0 := World.cell?_setCell_same w ⟨n, 0, none⟩ (.int .i64 (b.p : Int)) h.c0
  have e1 := World.cell?_setCell_same (w.setCell ⟨n, 0, none⟩ (.int .i64 (b.p : Int))) ⟨n, 1, none⟩ (.string b.n) ((World.cell?_setCell_other _ ⟨n, 0, none⟩ _ _ (by simp)).trans h.c1)
  have e2 := World.cell?_setCell_same ((w.setCell ⟨n, 0, none⟩ (.int .i64 (b.p : Int))).setCell ⟨n, 1, none⟩ (.string b.n)) ⟨n, 2, none⟩ (.int .i64 b.i) ((World.cell?_setCell_other _ ⟨n, 1, none⟩ _ _ (by simp)).trans ((World.cell?_setCell_other _ ⟨n, 0, none⟩ _ _ (by simp)).trans h.c2))
  exact ⟨by simpa using h.lt, (World.cell?_setCell_other _ ⟨n, 2, none⟩ _ _ (by simp)).trans ((World.cell?_setCell_other _ ⟨n, 1, none⟩ _ _ (by simp)).trans e0), (World.cell?_setCell_other _ ⟨n, 2, none⟩ _ _ (by simp)).trans e1, e2, by simpa using h.f0, by simpa using h.f1, by simpa using h.f2⟩

/-- What holds along the components. -/
structure ResI (w wr : World) (B : Nat) (v : Value) (xs : List ByteArray) (a : Pl) : Prop where
  b : Below w.heap.size w wr
  pb : PB wr w.heap.size a
  xs : Strs wr B v xs
  hB : B ≤ wr.heap.size
  low : ∀ q, v.ownBlock = some q → q ≠ w.heap.size
theorem ResI.step {w wr z : World} {B : Nat} {v : Value} {xs : List ByteArray} {a : Pl} (h : ResI w wr B v xs a) (hb : Below wr.heap.size wr z) : ResI w z B v xs a :=
  ⟨h.b.trans (hb.mono h.b.size), h.pb.up hb, h.xs.below (hb.mono h.hB), Nat.le_trans h.hB hb.size, h.low⟩
theorem ResI.store {w wr : World} {B : Nat} {v : Value} {xs : List ByteArray} {a : Pl} (h : ResI w wr B v xs a) (b : Pl) :
    ResI w (((wr.setCell ⟨w.heap.size, 0, none⟩ (.int .i64 (b.p : Int))).setCell ⟨w.heap.size, 1, none⟩ (.string b.n)).setCell ⟨w.heap.size, 2, none⟩ (.int .i64 b.i)) B v xs b :=
  ⟨((h.b.setCell (p := ⟨w.heap.size, 0, none⟩) (Nat.le_refl _) _).setCell (p := ⟨w.heap.size, 1, none⟩) (Nat.le_refl _) _).setCell (p := ⟨w.heap.size, 2, none⟩) (Nat.le_refl _) _, h.pb.put b,
    ((h.xs.set2 (p := ⟨w.heap.size, 0, none⟩) h.low _).set2 (p := ⟨w.heap.size, 1, none⟩) h.low _).set2 (p := ⟨w.heap.size, 2, none⟩) h.low _, by simpa using h.hB, h.low⟩

set_option maxRecDepth 100000 in
set_option maxHeartbeats 6400000 in
theorem resolve_any (X g cap : Nat) (t : FT) (r : Rq) (vd va : Value) (p : ByteArray) (w : World) (gm : GM w) (hp : p.size ≤ maxLen) (h : XR w X g cap t r vd va) (h1 : Ok1 (tr t)) :
    Calls Tryz.prog 161 #[.pointer (some ⟨X, 0, none⟩), .string p] w fun e w' => e = .returned (.tuple #[plV (resolveF t r.u p).1, .int .i64 (resolveF t r.u p).2]) ∧ Below w.heap.size w w' := by
  have H := Lib.hid h
  have H1 := Lib.hid h1
  have C2 := Lib.hid (fun W (hb : Below w.heap.size w W) => pathSplit_any p W (gm.below hb) hp)
  have B0 := Lib.hid (show Below w.heap.size w (w.alloc (.cells #[.int .i64 0, .string ⟨#[]⟩, .int .i64 0] 160)) from (Below.refl _ _).alloc (Nat.le_refl _) _)
  have P00 := Lib.hid (show PB (w.alloc (.cells #[.int .i64 0, .string ⟨#[]⟩, .int .i64 0] 160)) w.heap.size P0 from PB.new w P0 _)
  have hne : 0 < t.length := by have := h1.ne; rwa [tr_len] at this
  unfold SplitPost at C2
  unfold resolveF
  clear h gm h1
  generalize splitL p = xs at *
  generalize (splitF p).1 = sq at *
  generalize (splitF p).2 = sr at *
  generalize hR : resP t r.u xs P0 = R at *
  have HR := Lib.hid hR
  clear hR
  go_enter Tryz.func161, Tryz.ntmps161
  go_wp2_with fail
  refine (C2.out _ B0.out).mono ?_
  rintro e W2 ⟨v, rfl, hxs, b2, hlow⟩
  have P2 := Lib.hid (P00.out.up b2)
  have B2 := Lib.hid (B0.out.trans (b2.mono B0.out.size))
  obtain ⟨xa, xc, rfl, hxc, hxl, _, _⟩ := id hxs
  obtain ⟨l2, d0, d1, d2, e0, e1, e2⟩ := P2.out
  have I2 := Lib.hid (show ResI w ((((W2.setCell ⟨w.heap.size, 0, none⟩ (.int .i64 0)).setCell ⟨w.heap.size, 1, none⟩ (.string ⟨#[]⟩)).setCell ⟨w.heap.size, 2, none⟩ (.int .i64 0)).alloc (.cells #[.int .i64 sq, .int .i64 sr] 37)) W2.heap.size (.slice xa xs.length xc) xs P0 from by
    have hq : ∀ q, (Value.slice xa xs.length xc).ownBlock = some q → q ≠ w.heap.size := fun q hq => by
      have := hlow q hq
      simp at this
      omega
    have h3 := ((hxs.set2 (p := ⟨w.heap.size, 0, none⟩) hq (.int .i64 0)).set2 (p := ⟨w.heap.size, 1, none⟩) hq (.string ⟨#[]⟩)).set2 (p := ⟨w.heap.size, 2, none⟩) hq (.int .i64 0)
    have b3 := ((B2.out.setCell (p := ⟨w.heap.size, 0, none⟩) (Nat.le_refl _) (.int .i64 0)).setCell (p := ⟨w.heap.size, 1, none⟩) (Nat.le_refl _) (.string ⟨#[]⟩)).setCell (p := ⟨w.heap.size, 2, none⟩) (Nat.le_refl _) (.int .i64 0)
    have p3 : PB (((W2.setCell ⟨w.heap.size, 0, none⟩ (.int .i64 0)).setCell ⟨w.heap.size, 1, none⟩ (.string ⟨#[]⟩)).setCell ⟨w.heap.size, 2, none⟩ (.int .i64 0)) w.heap.size P0 := P2.out.put P0
    have b4 := (Below.refl (((W2.setCell ⟨w.heap.size, 0, none⟩ (.int .i64 0)).setCell ⟨w.heap.size, 1, none⟩ (.string ⟨#[]⟩)).setCell ⟨w.heap.size, 2, none⟩ (.int .i64 0)).heap.size _).alloc (Nat.le_refl _) (.cells #[.int .i64 sq, .int .i64 sr] 37)
    exact ⟨b3.trans (b4.mono b3.size), p3.up b4, h3.below (b4.mono (by simp)), by simp, hq⟩)
  clear b2 hlow C2 P00 B0 hxs P2 B2
  go_wp2_with fail
  go_loopg [9, 18] xs.length (fun gg _ s18 wr => ∃ i : Nat, ∃ a : Pl, i ≤ xs.length ∧ xs.length - i ≤ gg ∧ s18 = .int .i64 i ∧ (a.i = -1 ∨ (0 ≤ a.i ∧ a.i.toNat < t.length)) ∧ Aside (ResI w wr W2.heap.size (.slice xa xs.length xc) xs a) ∧ Aside (resP t r.u (xs.drop i) a = R))
  case atStart => exact ⟨0, P0, by omega, by omega, rfl, .inr ⟨by simp, by simpa using hne⟩, I2.out, (show resP t r.u (xs.drop 0) P0 = R from HR.out)⟩
  case round =>
    obtain ⟨i, a, hi, hg, rfl, hai, I, RE⟩ := hrel
    clear I2 HR d0 d1 d2 e0 e1 e2 l2
    obtain ⟨w3, rfl⟩ : ∃ w3 : World, w3 = wr := ⟨_, rfl⟩
    have hbs := I.out.b.size
    have pb := I.out.pb
    obtain ⟨al, ap, an, ai, af0, af1, af2⟩ := pb
    by_cases hlt : i < xs.length
    · have hltz : (i : Int) < (xs.length : Int) := by omega
      have hi0 : (0 : Int) ≤ (i : Int) := Int.natCast_nonneg _
      have hm9 : xs.length - (i + 1) < xs.length - i := Nat.sub_lt_sub_left hlt (Nat.lt_succ_self i)
      obtain ⟨xb, xo, rfl, hxb, hxj⟩ := strs_at I.out.xs (by omega)
      have x0 := hxj i hlt
      clear hxj
      have hstep := fun (hm : a.i ≠ -1) hk hq => resP_step (t := t) (u := r.u) (xs := xs) (i := i) (a := a) hlt hm hk hq
      have HSTEP := Lib.hid hstep
      clear hstep
      generalize xs.getD i ByteArray.empty = y at *
      obtain ⟨Q0, Q1, Q2, Q3, Q4, Q5, Q6⟩ := I.out.pb.put P0
      have BP := Lib.hid (((I.out.b.setCell (p := ⟨w.heap.size, 0, none⟩) (Nat.le_refl _) (.int .i64 0)).setCell (p := ⟨w.heap.size, 1, none⟩) (Nat.le_refl _) (.string ⟨#[]⟩)).setCell (p := ⟨w.heap.size, 2, none⟩) (Nat.le_refl _) (.int .i64 0))
      by_cases hmiss : a.i = -1
      · have hRR := ((resP_miss hlt hmiss).symm.trans RE.out).symm
        subst hRR
        rw [hmiss] at ai
        clear hmiss hai
        go_wp2
        exact bodyPost_ret (v := .tuple #[plV P0, .int .i64 6]) (by simp [results, Tryz.results161, plV, go_sem, al, ap, an, ai]; try rfl) rfl ⟨rfl, BP.out⟩
      · have hr := hai.resolve_left hmiss
        obtain ⟨hr0, hr1⟩ := hr
        obtain ⟨n, hn⟩ := Int.eq_ofNat_of_zero_le hr0
        rw [hn] at ai hr1
        have HAI := Lib.hid hn
        simp only [Int.toNat_natCast] at hr1
        have hmz : ((n : Int) == -1) = false := by rw [beq_eq_false_iff_ne]; omega
        have nz : (n : Int) < (t.length : Int) := by omega
        have n0 : (0 : Int) ≤ (n : Int) := Int.natCast_nonneg _
        have HX := Lib.hid (H.out.up I.out.b)
        obtain ⟨hgl, ⟨se, sd, sa, sx⟩, hc, hs, _⟩ := HX.out.one hr1
        obtain ⟨ea, ec, rfl, hec, hel, hef, hex⟩ := id hs.es
        have c0 : w3.cell? ⟨g, n * 8, none⟩ = some (.int .i64 (ino t n).k) := hc.c0
        have c2 : w3.cell? ⟨g, n * 8 + 2, none⟩ = some (.slice ea (ino t n).es.length ec) := hc.c2
        have z0 := HX.out.b.c 0 _ rfl
        have zl := HX.out.b.lt
        have hkind := (H1.out.fine n).kind
        rw [nod_tr] at hkind
        change (ino t n).k = 0 ∨ (ino t n).k = 1 ∨ (ino t n).k = 2 at hkind
        have CAL := Lib.hid (fun W (hb : Below w3.heap.size w3 W) => allows_any X g cap t r vd va n 4 W (HX.out.up hb) hr1)
        have SRT := Lib.hid (show SrtE (ino t n).es from by have := (H1.out.fine n).srt; rwa [nod_tr] at this)
        have CLU := Lib.hid (fun W (hb : Below w3.heap.size w3 W) => lookUp_any (.slice ea (ino t n).es.length ec) (ino t n).es y W (hs.es.up hb) SRT.out)
        have LRG := Lib.hid (look_range H1.out n y)
        have RF := Lib.hid (fun (hk : (ino t a.i.toNat).k = 2) => resP_file (t := t) (u := r.u) (xs := xs) (i := i) (a := a) hlt hmiss hk)
        have RN := Lib.hid (fun (hk : (ino t a.i.toNat).k ≠ 2) hq => resP_no (t := t) (u := r.u) (xs := xs) (i := i) (a := a) hlt hmiss hk hq)
        have RS := Lib.hid (fun (hk : (ino t a.i.toNat).k ≠ 2) hq => HSTEP.out hmiss hk hq)
        rw [show a.i.toNat = n by omega] at RF RN RS
        have h40 := H.out.len
        clear hc hs hef hex hmiss hai hn hr0 HSTEP
        generalize (ino t n).es.length = m at *
        generalize lookE (ino t n).es y = lk at *
        generalize hq : alw t n r.u 4 = q at *
        generalize hK : ((ino t n).k == 2) = K at *
        have HKK := Lib.hid hK
        clear hK hkind
        clear BP Q0 Q1 Q2 Q3 Q4 Q5 Q6
        have hrw : i64 (n : Int) := by unfold i64; omega
        go_upto_region 8 with fail
        generalize hkk : (ino t n).k = kk at *
        have HKV := Lib.hid hkk
        clear hkk
        go_cut [27] from 28 to 38 (fun s27 wx => s27 = .bool (kk == 2) ∧ Below w3.heap.size w3 wx)
        case first =>
          go_quiet (fail)
          go_wp2_with fail
          all_goals
            go_meet
            case rel => exact ⟨rfl, below_drewN (Below.refl _ _) _⟩
        case rest =>
        obtain ⟨rfl, b4⟩ := hcut
        obtain ⟨w4, rfl⟩ : ∃ w4 : World, w4 = wc := ⟨_, rfl⟩
        rw [HKK.out]
        have I4 := Lib.hid (I.out.step b4)
        have c2b := (b4.cell (p := ⟨g, n * 8 + 2, none⟩) hgl).trans c2
        have z0b := (b4.cell (p := ⟨X, 0, none⟩) zl).trans z0
        have hgl4 := Nat.lt_of_lt_of_le hgl b4.size
        have zl4 := Nat.lt_of_lt_of_le zl b4.size
        have B4 := Lib.hid b4
        clear c0 c2 z0 al ap an ai af0 af1 af2 b4 x0 hgl zl
        cases K with
        | true =>
          have hRR := ((RF.out (by simpa using HKK.out)).symm.trans RE.out).symm
          subst hRR
          clear RF RN RS CAL CLU
          obtain ⟨al, ap, an, ai, af0, af1, af2⟩ := I4.out.pb
          go_wp2
          exact bodyPost_ret (v := .tuple #[plV P0, .int .i64 8]) (by simp [results, Tryz.results161, plV, go_sem, al, ap, an, ai]; try rfl) rfl ⟨rfl, ((I4.out.b.setCell (p := ⟨w.heap.size, 0, none⟩) (Nat.le_refl _) _).setCell (p := ⟨w.heap.size, 1, none⟩) (Nat.le_refl _) _).setCell (p := ⟨w.heap.size, 2, none⟩) (Nat.le_refl _) _⟩
        | false =>
          have hk : kk ≠ 2 := by simpa using HKK.out
          have RN2 := Lib.hid (RN.out hk)
          have RS2 := Lib.hid (RS.out hk)
          clear RF RN RS hk
          obtain ⟨al, ap, an, ai, af0, af1, af2⟩ := I4.out.pb
          have aiv : a.i = (n : Int) := HAI.out
          rw [aiv] at ai
          clear aiv
          go_wp2_with fail
          refine (CAL.out _ B4.out).mono ?_
          rintro e w5 ⟨rfl, b5⟩
          have I5 := Lib.hid (I4.out.step b5)
          have B5 := Lib.hid (B4.out.trans (b5.mono B4.out.size))
          have c2c := (b5.cell (p := ⟨g, n * 8 + 2, none⟩) hgl4).trans c2b
          have z0c := (b5.cell (p := ⟨X, 0, none⟩) zl4).trans z0b
          have hgl5 := Nat.lt_of_lt_of_le hgl4 b5.size
          have zl5 := Nat.lt_of_lt_of_le zl4 b5.size
          clear c2b z0b al ap an ai af0 af1 af2 b5 hgl4 zl4 CAL I4 B4
          obtain ⟨al, ap, an, ai, af0, af1, af2⟩ := I5.out.pb
          cases q with
          | false =>
            have hRR := ((RN2.out rfl).symm.trans RE.out).symm
            subst hRR
            go_wp2
            exact bodyPost_ret (v := .tuple #[plV P0, .int .i64 13]) (by simp [results, Tryz.results161, plV, go_sem, al, ap, an, ai]; try rfl) rfl ⟨rfl, ((I5.out.b.setCell (p := ⟨w.heap.size, 0, none⟩) (Nat.le_refl _) _).setCell (p := ⟨w.heap.size, 1, none⟩) (Nat.le_refl _) _).setCell (p := ⟨w.heap.size, 2, none⟩) (Nat.le_refl _) _⟩
          | true =>
            have RE2 := Lib.hid ((RS2.out rfl).symm.trans RE.out)
            have aiv : a.i = (n : Int) := HAI.out
            rw [aiv] at ai
            clear aiv RN2 RS2
            have hbs5 := I5.out.b.size
            go_upto_region 12 with fail
            have HAI2 := Lib.hid HAI.out
            have CL5 := Lib.hid (CLU.out _ (B5.out.trans ((Below.refl w5.heap.size w5).drew.mono B5.out.size)))
            have HD5 := Lib.hid (show Below w5.heap.size w5 w5.drew from (Below.refl w5.heap.size w5).drew)
            clear CLU B5 RE H H1 HX SRT
            have hm10 := Nat.lt_of_lt_of_le hm9 hg
            clear hm9 hg
            have ID := Lib.hid (I5.out.step HD5.out)
            clear HKK HKV HAI
            refine wp_region_last_held (S := fun W => W.cell? ⟨w.heap.size, 2, none⟩ = some (.int .i64 (n : Int)) ∧ W.cell? ⟨X, 0, none⟩ = some (.slice (some ⟨g, 0, none⟩) t.length cap) ∧ W.cell? ⟨g, n * 8 + 2, none⟩ = some (.slice ea m ec)) 16 (by kernel_rfl) rfl (by kernel_rfl) ⟨ai, z0c, c2c⟩ (fun hHeld => ?_)
            simp only [List.setIfInBounds_toArray, List.set_cons_zero, List.set_cons_succ, stillOp]
            replace hHeld : (fun W : World => W.cell? ⟨w.heap.size, 2, none⟩ = some (.int .i64 (n : Int)) ∧ W.cell? ⟨X, 0, none⟩ = some (.slice (some ⟨g, 0, none⟩) t.length cap) ∧ W.cell? ⟨g, n * 8 + 2, none⟩ = some (.slice ea m ec)) w5.drew := hHeld
            refine wpAnyH_take (i := 0) (oi := _) (v := ?_) rfl (by kernel_rfl) (by kernel_rfl) (by kernel_rfl) (fun _ _ _ h => h) (Or.inl ⟨by rfl, ?_⟩) (by assumption) ?_
            rotate_left
            · intro w hSw
              (try dsimp only at hSw)
              obtain ⟨hs1, hs2, hs3⟩ := hSw
              (go_simp)
              try with_reducible rfl
            (try simp only [Act.put, List.getElem_toArray, List.getElem_cons_succ, List.getElem_cons_zero, List.setIfInBounds_toArray, List.set_cons_zero, List.set_cons_succ])
            refine wpAnyH_take (i := 1) (oi := _) (v := ?_) rfl (by kernel_rfl) (by kernel_rfl) (by kernel_rfl) (fun _ _ _ h => h) (Or.inl ⟨by rfl, ?_⟩) (by assumption) ?_
            rotate_left
            · intro w hSw
              (try dsimp only at hSw)
              obtain ⟨hs1, hs2, hs3⟩ := hSw
              (go_simp)
              try with_reducible rfl
            (try simp only [Act.put, List.getElem_toArray, List.getElem_cons_succ, List.getElem_cons_zero, List.setIfInBounds_toArray, List.set_cons_zero, List.set_cons_succ])
            refine wpAnyH_take (i := 2) (oi := _) (v := ?_) rfl (by kernel_rfl) (by kernel_rfl) (by kernel_rfl) (fun _ _ _ h => h) (Or.inl ⟨by rfl, ?_⟩) (by assumption) ?_
            rotate_left
            · intro w hSw
              (try dsimp only at hSw)
              obtain ⟨hs1, hs2, hs3⟩ := hSw
              (go_simp)
              try with_reducible rfl
            (try simp only [Act.put, List.getElem_toArray, List.getElem_cons_succ, List.getElem_cons_zero, List.setIfInBounds_toArray, List.set_cons_zero, List.set_cons_succ])
            refine wpAnyH_take (i := 3) (oi := _) (v := ?_) rfl (by kernel_rfl) (by kernel_rfl) (by kernel_rfl) (fun _ _ _ h => h) (Or.inl ⟨by rfl, ?_⟩) (by assumption) ?_
            rotate_left
            · intro w hSw
              (try dsimp only at hSw)
              obtain ⟨hs1, hs2, hs3⟩ := hSw
              (go_simp)
              try with_reducible rfl
            (try simp only [Act.put, List.getElem_toArray, List.getElem_cons_succ, List.getElem_cons_zero, List.setIfInBounds_toArray, List.set_cons_zero, List.set_cons_succ])
            refine wpAnyH_take (i := 4) (oi := _) (v := ?_) rfl (by kernel_rfl) (by kernel_rfl) (by kernel_rfl) (fun _ _ _ h => h) (Or.inl ⟨by rfl, ?_⟩) (by assumption) ?_
            rotate_left
            · intro w hSw
              (try dsimp only at hSw)
              obtain ⟨hs1, hs2, hs3⟩ := hSw
              (go_simp)
              try with_reducible rfl
            (try simp only [Act.put, List.getElem_toArray, List.getElem_cons_succ, List.getElem_cons_zero, List.setIfInBounds_toArray, List.set_cons_zero, List.set_cons_succ])
            refine wpAnyH_take (i := 5) (oi := _) (v := ?_) rfl (by kernel_rfl) (by kernel_rfl) (by kernel_rfl) (fun _ _ _ h => h) (Or.inl ⟨by rfl, ?_⟩) (by assumption) ?_
            rotate_left
            · intro w hSw
              (try dsimp only at hSw)
              obtain ⟨hs1, hs2, hs3⟩ := hSw
              (go_simp)
              try with_reducible rfl
            (try simp only [Act.put, List.getElem_toArray, List.getElem_cons_succ, List.getElem_cons_zero, List.setIfInBounds_toArray, List.set_cons_zero, List.set_cons_succ])
            refine wpAnyH_take (i := 6) (oi := _) (v := ?_) rfl (by kernel_rfl) (by kernel_rfl) (by kernel_rfl) (fun _ _ _ h => h) (Or.inl ⟨by rfl, ?_⟩) (by assumption) ?_
            rotate_left
            · intro w hSw
              (try dsimp only at hSw)
              obtain ⟨hs1, hs2, hs3⟩ := hSw
              (go_simp)
              try with_reducible rfl
            (try simp only [Act.put, List.getElem_toArray, List.getElem_cons_succ, List.getElem_cons_zero, List.setIfInBounds_toArray, List.set_cons_zero, List.set_cons_succ])
            refine wpAnyH_take (i := 7) (oi := _) (v := ?_) rfl (by kernel_rfl) (by kernel_rfl) (by kernel_rfl) (fun _ _ _ h => h) (Or.inl ⟨by rfl, ?_⟩) (by assumption) ?_
            rotate_left
            · intro w hSw
              (try dsimp only at hSw)
              obtain ⟨hs1, hs2, hs3⟩ := hSw
              (go_simp)
              try with_reducible rfl
            (try simp only [Act.put, List.getElem_toArray, List.getElem_cons_succ, List.getElem_cons_zero, List.setIfInBounds_toArray, List.set_cons_zero, List.set_cons_succ])
            refine wpAnyH_take (i := 8) (oi := _) (v := ?_) rfl (by kernel_rfl) (by kernel_rfl) (by kernel_rfl) (fun _ _ _ h => h) (Or.inl ⟨by rfl, ?_⟩) (by assumption) ?_
            rotate_left
            · intro w hSw
              (try dsimp only at hSw)
              obtain ⟨hs1, hs2, hs3⟩ := hSw
              (go_simp)
              try with_reducible rfl
            (try simp only [Act.put, List.getElem_toArray, List.getElem_cons_succ, List.getElem_cons_zero, List.setIfInBounds_toArray, List.set_cons_zero, List.set_cons_succ])
            refine wpAnyH_take (i := 9) (oi := _) (v := ?_) rfl (by kernel_rfl) (by kernel_rfl) (by kernel_rfl) (fun _ _ _ h => h) (Or.inl ⟨by rfl, ?_⟩) (by assumption) ?_
            rotate_left
            · intro w hSw
              (try dsimp only at hSw)
              obtain ⟨hs1, hs2, hs3⟩ := hSw
              (go_simp)
              try with_reducible rfl
            (try simp only [Act.put, List.getElem_toArray, List.getElem_cons_succ, List.getElem_cons_zero, List.setIfInBounds_toArray, List.set_cons_zero, List.set_cons_succ])
            refine wpAnyH_take (i := 10) (oi := _) (v := ?_) rfl (by kernel_rfl) (by kernel_rfl) (by kernel_rfl) (fun _ _ _ h => h) (Or.inl ⟨by rfl, ?_⟩) (by assumption) ?_
            rotate_left
            · intro w hSw
              (try dsimp only at hSw)
              obtain ⟨hs1, hs2, hs3⟩ := hSw
              (go_simp)
              try with_reducible rfl
            (try simp only [Act.put, List.getElem_toArray, List.getElem_cons_succ, List.getElem_cons_zero, List.setIfInBounds_toArray, List.set_cons_zero, List.set_cons_succ])
            refine wpAnyH_take (i := 11) (oi := _) (v := ?_) rfl (by kernel_rfl) (by kernel_rfl) (by kernel_rfl) (fun _ _ _ h => h) (Or.inl ⟨by rfl, ?_⟩) (by assumption) ?_
            rotate_left
            · intro w hSw
              (try dsimp only at hSw)
              obtain ⟨hs1, hs2, hs3⟩ := hSw
              (go_simp)
              try with_reducible rfl
            (try simp only [Act.put, List.getElem_toArray, List.getElem_cons_succ, List.getElem_cons_zero, List.setIfInBounds_toArray, List.set_cons_zero, List.set_cons_succ])
            refine wpAnyH_take (i := 12) (oi := _) (v := ?_) rfl (by kernel_rfl) (by kernel_rfl) (by kernel_rfl) (fun _ _ _ h => h) (Or.inl ⟨by rfl, ?_⟩) (by assumption) ?_
            rotate_left
            · intro w hSw
              (try dsimp only at hSw)
              obtain ⟨hs1, hs2, hs3⟩ := hSw
              (go_simp)
              try with_reducible rfl
            (try simp only [Act.put, List.getElem_toArray, List.getElem_cons_succ, List.getElem_cons_zero, List.setIfInBounds_toArray, List.set_cons_zero, List.set_cons_succ])
            refine wpAnyH_take (i := 13) (oi := _) (v := ?_) rfl (by kernel_rfl) (by kernel_rfl) (by kernel_rfl) (fun _ _ _ h => h) (Or.inl ⟨by rfl, ?_⟩) (by assumption) ?_
            rotate_left
            · intro w hSw
              (try dsimp only at hSw)
              obtain ⟨hs1, hs2, hs3⟩ := hSw
              (go_simp)
              try with_reducible rfl
            (try simp only [Act.put, List.getElem_toArray, List.getElem_cons_succ, List.getElem_cons_zero, List.setIfInBounds_toArray, List.set_cons_zero, List.set_cons_succ])
            refine wpAnyH_ready (rs := [14]) (by kernel_rfl) (by simp) ?_
            refine AllReadyH.cons (by simp only [List.getElem?_toArray, List.getElem?_cons_succ, List.getElem?_cons_zero]; exact rfl) (fun K hK => ?_) ?_
            · go_simp
              go_at_call 185
              refine CL5.out.mono ?_
              rintro e z ⟨rfl, hb9⟩
              have IZ := Lib.hid (ID.out.step hb9)
              have hx9 := (hb9.cell (p := ⟨X, 0, none⟩) zl5).trans z0c
              have hg9 := (hb9.cell (p := ⟨g, n * 8 + 2, none⟩) hgl5).trans c2c
              clear hHeld al ap an ai af0 af1 af2
              obtain ⟨al, ap, an, ai, af0, af1, af2⟩ := IZ.out.pb
              rw [HAI2.out] at ai
              refine hK.out _ _ ?_ (fun hHeld => ?_)
              · exact ⟨ai, hx9, hg9⟩
              clear hK K
              (try simp only [Act.put, List.getElem_toArray, List.getElem_cons_succ, List.getElem_cons_zero, List.setIfInBounds_toArray, List.set_cons_zero, List.set_cons_succ])
              refine wpAnyH_take (i := 15) (oi := _) (v := ?_) rfl (by kernel_rfl) (by kernel_rfl) (by kernel_rfl) (fun _ _ _ h => h) (Or.inl ⟨by rfl, ?_⟩) (by assumption) ?_
              rotate_left
              · intro w hSw
                (try dsimp only at hSw)
                obtain ⟨hs1, hs2, hs3⟩ := hSw
                (go_simp)
                try with_reducible rfl
              (try simp only [Act.put, List.getElem_toArray, List.getElem_cons_succ, List.getElem_cons_zero, List.setIfInBounds_toArray, List.set_cons_zero, List.set_cons_succ])
              refine wpAnyH_take (i := 16) (oi := _) (v := ?_) rfl (by kernel_rfl) (by kernel_rfl) (by kernel_rfl) (fun _ _ _ h => h) (Or.inl ⟨by rfl, ?_⟩) (by assumption) ?_
              rotate_left
              · intro w hSw
                (try dsimp only at hSw)
                obtain ⟨hs1, hs2, hs3⟩ := hSw
                (go_simp)
                try with_reducible rfl
              (try simp only [Act.put, List.getElem_toArray, List.getElem_cons_succ, List.getElem_cons_zero, List.setIfInBounds_toArray, List.set_cons_zero, List.set_cons_succ])
              refine wpAnyH_done (by kernel_rfl) ?_ _
              change wpList _ _ _ _ _ _
              clear hHeld hx9 hg9
              go_wp2
              go_roundg (xs.length - (i + 1))
              case measure => exact hm10
              case rel => exact ⟨i + 1, ⟨n, y, lk⟩, by omega, by omega, by go_num, LRG.out.imp id (fun h => ⟨Int.le_of_lt h.1, h.2⟩), Lib.hid (IZ.out.store ⟨n, y, lk⟩), RE2⟩
            · exact AllReadyH.nil
    · obtain rfl : i = xs.length := by omega
      have hRR := (resP_end.symm.trans RE.out).symm
      subst hRR
      go_wp2
      exact bodyPost_ret (v := .tuple #[plV a, .int .i64 0]) (by simp [results, Tryz.results161, plV, go_sem, al, ap, an, ai]; try rfl) rfl ⟨rfl, ((I.out.b.setCell (p := ⟨w.heap.size, 0, none⟩) (Nat.le_refl _) _).setCell (p := ⟨w.heap.size, 1, none⟩) (Nat.le_refl _) _).setCell (p := ⟨w.heap.size, 2, none⟩) (Nat.le_refl _) _⟩

end Go.Proofs.YtmbbmmnpkdfecaaGreatDoor

/- An entry is put into a directory of a tree that the call owns, or taken from it: the row of entries changes in memory, then its slice is stored. Conditions: the execution is the call's own. -/

set_option linter.all false
namespace Go.Proofs.YtmbbmmnpkdfecaaGreatDoor
open Go.RowKit

/-- The row of one inode's entries has changed, and its slice's cell is stored. -/
theorem XO.entry {w w1 : World} {base X g cap : Nat} {sl : Nat → Sl} {t : FT} {r : Rq} {vd va : Value} (h : XO w base X g cap sl t r vd va) {j : Nat} (hj : j < t.length) (v' : Value) (es' : List DE)
    (hg : w.grownBy w1 (sl j).e.ownBlock) (ho : w1.ownsRow base 93 2 v' es'.length (flatD es')) (hq : ∀ q, v'.ownBlock = some q → (sl j).e.ownBlock = some q ∨ w.heap.size ≤ q) (hl : es'.length ≤ 1000) (hf : ∀ e ∈ es', e.fits) :
    XO (w1.setCell ⟨g, j * 8 + 2, none⟩ v') base X g cap (upd sl j { sl j with e := v' }) (t.set j { ino t j with es := es' }) r vd va ∧ Below base w (w1.setCell ⟨g, j * 8 + 2, none⟩ v') ∧ Typ w (w1.setCell ⟨g, j * 8 + 2, none⟩ v') := by
  obtain ⟨cs, hown⟩ := h.ot.own
  have hb := h.base
  have hrj := h.ot.r j hj
  have hfj := h.ot.fit j hj
  have hap := h.ot.apart hrj
  have hne0 : ∀ q, (sl j).e.ownBlock = some q → base ≤ q ∧ q < w.heap.size := fun q e => hrj.e.lt q e
  -- what the change of the row keeps
  have hown1 : w1.ownsRow base 63 8 (.slice (some ⟨g, 0, none⟩) t.length cap) t.length cs := own_kept hown hg (fun q e e2 => by
    injection e2 with e2
    subst e2
    exact hap.1 e)
  have hX1 : w1.ownsRow base 78 11 (.slice (some ⟨X, 0, none⟩) 1 1) 1 (xL t.length g cap r vd va) := own_kept h.x hg (fun q e => own_apart hrj.e h.x (by decide) e)
  have hcell : ∀ k, k < t.length → ∀ i u, (inoL (ino t k) (sl k))[i]? = some u → w1.cell? ⟨g, k * 8 + i, none⟩ = some u := fun k hk i u hu => by
    rw [hg.cell_far ⟨g, k * 8 + i, none⟩ hb.2.2.1 (fun e => hap.1 e.symm)]
    exact h.ot.c k hk i u hu
  have hR1 : ∀ k, k < t.length → k ≠ j → Rws w1 base (sl k) (ino t k) := fun k hk hkj => (h.ot.r k hk).grown hg (fun q e => ⟨fun e2 => h.ot.ne k j hk hj hkj q e2 e, own_apart hrj.e (h.ot.r k hk).d (by decide) e, own_apart hrj.e (h.ot.r k hk).a (by decide) e, own_apart hrj.e (h.ot.r k hk).x (by decide) e⟩)
  have hRj : Rws w1 base { sl j with e := v' } { ino t j with es := es' } :=
    ⟨ho, own_kept hrj.d hg (fun q e => own_apart hrj.e hrj.d (by decide) e), own_kept hrj.a hg (fun q e => own_apart hrj.e hrj.a (by decide) e), own_kept hrj.x hg (fun q e => own_apart hrj.e hrj.x (by decide) e)⟩
  -- the store
  obtain ⟨ho2, hg2⟩ := hown1.stored (j * 8 + 2) v'
  have hlen : (t.set j { ino t j with es := es' }).length = t.length := List.length_set
  have hap1 : ∀ {s : Sl} {x : Ino}, Rws w1 base s x → s.e.ownBlock ≠ some g ∧ s.d.ownBlock ≠ some g ∧ s.a.ownBlock ≠ some g ∧ s.x.ownBlock ≠ some g := fun hr =>
    ⟨own_apart hown1 hr.e (by decide) rfl, own_apart hown1 hr.d (by decide) rfl, own_apart hown1 hr.a (by decide) rfl, own_apart hown1 hr.x (by decide) rfl⟩
  have hst : ∀ k, k < t.length → ∀ m u, (inoL (ino t k) (sl k))[m]? = some u → ¬ (k = j ∧ m = 2) → (w1.setCell ⟨g, j * 8 + 2, none⟩ v').cell? ⟨g, k * 8 + m, none⟩ = some u := by
    intro k hk m u hu hn
    have hm : m < 8 := (List.getElem?_eq_some_iff.1 hu).1
    refine (World.cell?_setCell_other w1 _ _ v' (fun e => hn ?_)).trans (hcell k hk m u hu)
    have e := congrArg Addr.off e
    simp at e
    omega
  refine ⟨⟨⟨⟨_, by rw [hlen]; exact ho2⟩, fun k hk m u hu => ?_, fun k hk => ?_, fun a b ha hb2 hab q hq2 => ?_, fun k hk => ?_, by rw [hlen]; exact h.ot.len⟩, ?_, ?_, by rw [hlen]; exact h.len⟩, ?_, (Typ.of_grown (T := 93) hg (fun q e => own_typ hrj.e e) (.inr rfl)).trans (Typ.of_grown (T := 63) hg2 (fun q e => own_typ hown1 e) (.inl rfl))⟩
  · rw [hlen] at hk
    rw [ino_set hj] at hu
    unfold upd at hu
    by_cases e : k = j
    · subst e
      simp only [if_true] at hu
      by_cases e2 : m = 2
      · subst e2
        injection hu with hu
        subst hu
        exact World.cell?_setCell_same w1 _ _ (hcell k hk 2 _ rfl)
      · refine hst k hk m u ?_ (fun e => e2 e.2)
        have hm : m < 8 := (List.getElem?_eq_some_iff.1 hu).1
        match m, hm, e2, hu with
        | 0, _, _, hu => exact hu
        | 1, _, _, hu => exact hu
        | 2, _, e2, _ => exact absurd rfl e2
        | 3, _, _, hu => exact hu
        | 4, _, _, hu => exact hu
        | 5, _, _, hu => exact hu
        | 6, _, _, hu => exact hu
        | 7, _, _, hu => exact hu
    · simp only [if_neg e] at hu
      exact hst k hk m u hu (fun e3 => e e3.1)
  · rw [hlen] at hk
    rw [ino_set hj]
    unfold upd
    by_cases e : k = j
    · subst e
      simp only [if_true]
      exact hRj.grown hg2 (fun b e => by injection e with e; subst e; exact hap1 hRj)
    · simp only [if_neg e]
      exact (hR1 k hk e).grown hg2 (fun b e2 => by injection e2 with e2; subst e2; exact hap1 (hR1 k hk e))
  · rw [hlen] at ha hb2
    unfold upd at hq2 ⊢
    have hfar : ∀ k, k < t.length → k ≠ j → ∀ q, (sl k).e.ownBlock = some q → v'.ownBlock ≠ some q := fun k hk hkj q e1 e2 => by
      rcases hq q e2 with e3 | e3
      · exact h.ot.ne k j hk hj hkj q e1 e3
      · have := ((h.ot.r k hk).e.lt q e1).2; omega
    by_cases e1 : a = j
    · subst e1
      simp only [if_true] at hq2
      have e2 : ¬ b = a := fun e => hab e.symm
      simp only [if_neg e2]
      intro hx
      exact hfar b hb2 e2 q hx hq2
    · simp only [if_neg e1] at hq2
      by_cases e2 : b = j
      · subst e2
        simp only [if_true]
        exact hfar a ha e1 q hq2
      · simp only [if_neg e2]
        exact h.ot.ne a b ha hb2 hab q hq2
  · rw [hlen] at hk
    rw [ino_set hj]
    by_cases e : k = j
    · rw [if_pos e]; exact ⟨hfj.k, hfj.o, hfj.q, hfj.v, hf, hfj.ac, hfj.xs, hl, hfj.ld, hfj.la, hfj.lx⟩
    · rw [if_neg e]; exact h.ot.fit k hk
  · rw [hlen]
    refine own_kept hX1 hg2 (fun q e => ?_)
    injection e with e
    subst e
    intro e
    injection e with e
    exact hb.2.2.2.2.2 e
  · refine h.rq.keep (fun b o hB => ?_)
    rw [World.cell?_setCell_other w1 _ _ v' (fun e => by have := congrArg Addr.block e; simp at this; omega)]
    exact hg.cell_far ⟨b, o, none⟩ (Nat.lt_of_lt_of_le hB hb.1) (fun e => by have := (hne0 b e.symm).1; omega)
  · exact Below.setCell (p := ⟨g, j * 8 + 2, none⟩) ⟨hg.os, hg.tape, hg.output, hg.size, fun k hk => hg.block k (Nat.lt_of_lt_of_le hk hb.1) (fun e => by have := (hne0 k e.symm).1; omega)⟩ hb.2.1 v'

theorem own_slice {w : World} {base s n : Nat} {e : TypeId} {v : Value} {xs : List Value} (h : w.ownsRow base e s v n xs) : ∃ a c, v = .slice a n c := by
  rcases h.2 with ⟨h1, h0⟩ | ⟨g, c, cur, h1, _⟩
  · exact ⟨none, 0, by rw [h1, h0]⟩
  · exact ⟨_, _, h1⟩
/-- The cell of a directory's slice stands while its row is changed. -/
theorem XO.slot {w w1 : World} {base X g cap : Nat} {sl : Nat → Sl} {t : FT} {r : Rq} {vd va : Value} (h : XO w base X g cap sl t r vd va) {j : Nat} (hj : j < t.length) (hg : w.grownBy w1 (sl j).e.ownBlock) :
    w1.cell? ⟨g, j * 8 + 2, none⟩ = some (sl j).e ∧ w1.frozen? ⟨g, j * 8 + 2, none⟩ = false := by
  have hap := h.ot.apart (h.ot.r j hj)
  have hb := hg.block g h.base.2.2.1 (fun e => hap.1 e.symm)
  exact ⟨(World.cell?_of_block (a := ⟨g, j * 8 + 2, none⟩) hb).trans (h.ot.c j hj 2 _ rfl), (World.frozen?_of_block (a := ⟨g, j * 8 + 2, none⟩) hb).trans (h.ot.frozen _)⟩

/-- What a change of a directory's row leaves: its slice is to be stored. -/
def RowP (w : World) (base X g cap : Nat) (sl : Nat → Sl) (t : FT) (r : Rq) (vd va : Value) (j : Nat) (es' : List DE) (en : Ending) (z : World) : Prop :=
  ∃ a' c', en = .returned (.slice a' es'.length c') ∧ z.cell? ⟨g, j * 8 + 2, none⟩ = some (sl j).e ∧ z.frozen? ⟨g, j * 8 + 2, none⟩ = false ∧
    XO (z.setCell ⟨g, j * 8 + 2, none⟩ (.slice a' es'.length c')) base X g cap (upd sl j { sl j with e := .slice a' es'.length c' }) (t.set j { ino t j with es := es' }) r vd va ∧ Below base w (z.setCell ⟨g, j * 8 + 2, none⟩ (.slice a' es'.length c')) ∧ Typ w (z.setCell ⟨g, j * 8 + 2, none⟩ (.slice a' es'.length c'))

theorem XO.ins {w : World} {base X g cap : Nat} {sl : Nat → Sl} {t : FT} {r : Rq} {vd va : Value} (h : XO w base X g cap sl t r vd va) {j : Nat} (hj : j < t.length) (e : DE) (i : Nat) (hi : i ≤ (ino t j).es.length) (hl : (ino t j).es.length ≤ 900) (hf : e.fits)
    (W : World) (vb : Nat) (vt : TypeId) (hB : Below w.heap.size w W) (hvb : w.heap.size ≤ vb) (hv : W.heap[vb]? = some (.cells #[.string e.n, .int .i64 e.i] vt (0, 0))) :
    Calls Tryz.prog 159 #[(sl j).e, .int .i64 (i : Nat), .slice (some ⟨vb, 0, none⟩) 1 1] W (RowP w base X g cap sl t r vd va j ((ino t j).es.take i ++ e :: (ino t j).es.drop i)) := by
  have hW := h.up hB
  have hlen : ((ino t j).es.take i ++ e :: (ino t j).es.drop i).length = (ino t j).es.length + 1 := by
    simp only [List.length_append, List.length_cons, List.length_take, List.length_drop]; omega
  refine (insert_own base (sl j).e (ino t j).es i e vb vt W (hW.ot.r j hj).e (by omega) hi hW.base.1 hv (fun he => by have := ((h.ot.r j hj).e.lt vb he).2; omega)).mono ?_
  rintro en z ⟨v', rfl, ho, hgr, hq⟩
  obtain ⟨a', c', rfl⟩ := own_slice ho
  have hs := hW.slot hj hgr
  have he := hW.entry hj (.slice a' ((ino t j).es.length + 1) c') ((ino t j).es.take i ++ e :: (ino t j).es.drop i) hgr (by rw [hlen]; exact ho) hq (by omega) (fun x hx => by
    rcases List.mem_append.1 hx with hx | hx
    · exact (h.ot.fit j hj).es x (List.mem_of_mem_take hx)
    · rcases List.mem_cons.1 hx with rfl | hx
      · exact hf
      · exact (h.ot.fit j hj).es x (List.mem_of_mem_drop hx))
  rw [← hlen] at he
  exact ⟨a', c', by rw [hlen], hs.1, hs.2, he.1, (hB.mono h.base.1).trans he.2.1, (Typ.of_below hB).trans he.2.2⟩

theorem XO.del {w : World} {base X g cap : Nat} {sl : Nat → Sl} {t : FT} {r : Rq} {vd va : Value} (h : XO w base X g cap sl t r vd va) {j : Nat} (hj : j < t.length) (i : Nat) (hi : i < (ino t j).es.length)
    (W : World) (hB : Below w.heap.size w W) :
    Calls Tryz.prog 165 #[(sl j).e, .int .i64 (i : Nat), .int .i64 ((i : Int) + 1)] W (RowP w base X g cap sl t r vd va j ((ino t j).es.take i ++ (ino t j).es.drop (i + 1))) := by
  have hW := h.up hB
  have hlen : ((ino t j).es.take i ++ (ino t j).es.drop (i + 1)).length = (ino t j).es.length - 1 := by
    simp only [List.length_append, List.length_take, List.length_drop]; omega
  have h900 := (h.ot.fit j hj).le
  refine (delete_own base (sl j).e (ino t j).es i W (hW.ot.r j hj).e hi).mono ?_
  rintro en z ⟨v', rfl, ho, hgr, hq⟩
  obtain ⟨a', c', rfl⟩ := own_slice ho
  have hs := hW.slot hj hgr
  have he := hW.entry hj (.slice a' ((ino t j).es.length - 1) c') ((ino t j).es.take i ++ (ino t j).es.drop (i + 1)) hgr (by rw [hlen]; exact ho) (fun q e => .inl (by rw [← hq]; exact e)) (by omega) (fun x hx => by
    rcases List.mem_append.1 hx with hx | hx
    · exact (h.ot.fit j hj).es x (List.mem_of_mem_take hx)
    · exact (h.ot.fit j hj).es x (List.mem_of_mem_drop hx))
  rw [← hlen] at he
  exact ⟨a', c', by rw [hlen], hs.1, hs.2, he.1, (hB.mono h.base.1).trans he.2.1, (Typ.of_below hB).trans he.2.2⟩

end Go.Proofs.YtmbbmmnpkdfecaaGreatDoor

/- mustExist, resolveEntry, mustBeVacant, mustBeRemovable, unlessMissing of package memfs. Conditions: the execution lies in memory as it reads; the tree's inodes are valid by themselves. -/

set_option linter.all false
namespace Go.Proofs.YtmbbmmnpkdfecaaGreatDoor
open Go.RowKit

def unlessF (R : Pl × Int) : Pl × Int := if R.2 = 0 ∧ R.1.i = -1 then (R.1, 6) else R
def existF (t : FT) (u : Int) (p : ByteArray) : Pl × Int := unlessF (resolveF t u p)
def entryF (t : FT) (u : Int) (p : ByteArray) : Pl × Int :=
  if (resolveF t u p).2 ≠ 0 then resolveF t u p
  else if (resolveF t u p).1.n = ByteArray.empty then ((resolveF t u p).1, 12)
  else if alw t (resolveF t u p).1.p u 2 = false then ((resolveF t u p).1, 13) else resolveF t u p
def vacantF (t : FT) (u : Int) (p : ByteArray) : Pl × Int := if (entryF t u p).2 = 0 ∧ (entryF t u p).1.i ≠ -1 then ((entryF t u p).1, 7) else entryF t u p
def removeF (t : FT) (u : Int) (p : ByteArray) : Pl × Int := unlessF (entryF t u p)

set_option maxHeartbeats 1000000 in
theorem unlessMissing_any (a : Pl) (c : Int) (w : World) :
    Calls Tryz.prog 160 #[plV a, .int .i64 c] w fun e w' => e = .returned (.tuple #[plV (unlessF (a, c)).1, .int .i64 (unlessF (a, c)).2]) ∧ Below w.heap.size w w' := by
  have HU : Hid (unlessF (a, c) = if c = 0 ∧ a.i = -1 then (a, 6) else (a, c)) := Lib.hid rfl
  generalize unlessF (a, c) = R at *
  obtain ⟨p, n, i⟩ := a
  unfold plV at *
  simp only at *
  by_cases hc : c = 0
  · subst hc
    by_cases hi : i = -1
    · subst hi
      rw [if_pos ⟨rfl, rfl⟩] at HU
      have hR := HU.out
      subst hR
      clear HU
      go_enter Tryz.func160, Tryz.ntmps160
      go_wp2
      exact bodyPost_ret (v := .tuple #[.agg #[.int .i64 (p : Int), .string n, .int .i64 (-1)], .int .i64 6]) (by simp [results, Tryz.results160, go_sem]; try rfl) rfl ⟨rfl, by repeat (first | exact Below.refl _ _ | refine Below.setCell ?_ (by first | omega | (simp; done) | (simp; omega)) _ | refine Below.alloc ?_ (by first | omega | (simp; done) | (simp; omega)) _)⟩
    · rw [if_neg (fun h => hi h.2)] at HU
      have hR := HU.out
      subst hR
      have hi1 : (i == -1) = false := by simpa using hi
      clear HU hi
      go_enter Tryz.func160, Tryz.ntmps160
      go_wp2
      exact bodyPost_ret (v := .tuple #[.agg #[.int .i64 (p : Int), .string n, .int .i64 i], .int .i64 0]) (by simp [results, Tryz.results160, go_sem]; try rfl) rfl ⟨rfl, by repeat (first | exact Below.refl _ _ | refine Below.setCell ?_ (by first | omega | (simp; done) | (simp; omega)) _ | refine Below.alloc ?_ (by first | omega | (simp; done) | (simp; omega)) _)⟩
  · rw [if_neg (fun h => hc h.1)] at HU
    have hR := HU.out
    subst hR
    have hc1 : (c == 0) = false := by simpa using hc
    clear HU hc
    go_enter Tryz.func160, Tryz.ntmps160
    go_wp2
    exact bodyPost_ret (v := .tuple #[.agg #[.int .i64 (p : Int), .string n, .int .i64 i], .int .i64 c]) (by simp [results, Tryz.results160, go_sem]; try rfl) rfl ⟨rfl, by repeat (first | exact Below.refl _ _ | refine Below.setCell ?_ (by first | omega | (simp; done) | (simp; omega)) _ | refine Below.alloc ?_ (by first | omega | (simp; done) | (simp; omega)) _)⟩

/-- What is asked of a walk along a path. -/
structure Way (w : World) (X g cap : Nat) (t : FT) (r : Rq) (vd va : Value) (p : ByteArray) : Prop where
  gm : GM w
  hp : p.size ≤ maxLen
  x : XR w X g cap t r vd va
  ok : Ok1 (tr t)
theorem Way.up {w w' : World} {X g cap : Nat} {t : FT} {r : Rq} {vd va : Value} {p : ByteArray} (h : Way w X g cap t r vd va p) (hb : Below w.heap.size w w') : Way w' X g cap t r vd va p := ⟨h.gm.below hb, h.hp, h.x.up hb, h.ok⟩

set_option maxRecDepth 100000 in
set_option maxHeartbeats 2000000 in
theorem mustExist_any (X g cap : Nat) (t : FT) (r : Rq) (vd va : Value) (p : ByteArray) (w : World) (h : Way w X g cap t r vd va p) :
    Calls Tryz.prog 128 #[.pointer (some ⟨X, 0, none⟩), .string p] w fun e w' => e = .returned (.tuple #[plV (existF t r.u p).1, .int .i64 (existF t r.u p).2]) ∧ Below w.heap.size w w' := by
  have C1 := Lib.hid (fun W (hb : Below w.heap.size w W) => (show Calls _ _ _ _ _ from resolve_any X g cap t r vd va p W (h.up hb).gm h.hp (h.up hb).x h.ok))
  have C2 := Lib.hid (fun W => unlessMissing_any (resolveF t r.u p).1 (resolveF t r.u p).2 W)
  have B0 := Lib.hid (show Below w.heap.size w (w.alloc (.cells #[.int .i64 0, .string ⟨#[]⟩, .int .i64 0] 160)) from (Below.refl _ _).alloc (Nat.le_refl _) _)
  have P0' := Lib.hid (show PB (w.alloc (.cells #[.int .i64 0, .string ⟨#[]⟩, .int .i64 0] 160)) w.heap.size P0 from PB.new w P0 _)
  unfold existF
  clear h
  rw [show ((resolveF t r.u p).1, (resolveF t r.u p).2) = resolveF t r.u p from rfl] at C2
  generalize unlessF (resolveF t r.u p) = U at *
  generalize (resolveF t r.u p).1 = a at *
  generalize (resolveF t r.u p).2 = c at *
  obtain ⟨⟨up, un, ui⟩, uc⟩ := U
  obtain ⟨ap, an, ai⟩ := a
  unfold plV at *
  simp only at *
  go_enter Tryz.func128, Tryz.ntmps128
  go_wp2_with fail
  refine (C1.out _ B0.out).mono ?_
  rintro e w1 ⟨rfl, b1⟩
  have P1 := Lib.hid (P0'.out.up b1)
  have B1 := Lib.hid (B0.out.trans (b1.mono B0.out.size))
  clear b1
  go_wp2_with fail
  refine (C2.out _).mono ?_
  rintro e w2 ⟨rfl, b2⟩
  have P2 := P1.out.up b2
  have B2 := Lib.hid (B1.out.trans (b2.mono B1.out.size))
  obtain ⟨l0, d0, d1, d2, e0, e1, e2⟩ := P2
  clear b2
  go_wp2
  exact bodyPost_ret (v := .tuple #[.agg #[.int .i64 (up : Int), .string un, .int .i64 ui], .int .i64 uc]) (by simp [results, Tryz.results128, go_sem, l0, d0, d1, d2]; try rfl) rfl ⟨rfl, ((B2.out.setCell (p := ⟨w.heap.size, 0, none⟩) (Nat.le_refl _) _).setCell (p := ⟨w.heap.size, 1, none⟩) (Nat.le_refl _) _).setCell (p := ⟨w.heap.size, 2, none⟩) (Nat.le_refl _) _⟩

theorem resP_par {t : FT} (h1 : Ok1 (tr t)) (u : Int) : ∀ (xs : List ByteArray) (a : Pl), (a.i = -1 ∨ (0 ≤ a.i ∧ a.i.toNat < t.length)) → a.p < t.length → (resP t u xs a).1.p < t.length
  | [], a, _, hp => by rw [resP]; exact hp
  | c :: cs, a, hi, hp => by
    have h0 : 0 < t.length := by have := h1.ne; rwa [tr_len] at this
    rw [resP]
    split
    · exact h0
    · rename_i hm
      split
      · exact h0
      · split
        · exact h0
        · refine resP_par h1 u cs _ ?_ (hi.resolve_left hm).2
          rcases look_range h1 a.i.toNat c with h9 | h9
          · exact .inl h9
          · exact .inr ⟨by have := h9.1; simp only; omega, h9.2⟩
theorem resolve_par {t : FT} (h1 : Ok1 (tr t)) (u : Int) (p : ByteArray) : (resolveF t u p).1.p < t.length := by
  have h0 : 0 < t.length := by have := h1.ne; rwa [tr_len] at this
  exact resP_par h1 u _ _ (.inr ⟨by simp, by simpa using h0⟩) h0

set_option maxRecDepth 100000 in
set_option maxHeartbeats 4000000 in
theorem resolveEntry_any (X g cap : Nat) (t : FT) (r : Rq) (vd va : Value) (p : ByteArray) (w : World) (h : Way w X g cap t r vd va p) :
    Calls Tryz.prog 157 #[.pointer (some ⟨X, 0, none⟩), .string p] w fun e w' => e = .returned (.tuple #[plV (entryF t r.u p).1, .int .i64 (entryF t r.u p).2]) ∧ Below w.heap.size w w' := by
  have C1 := Lib.hid (fun W (hb : Below w.heap.size w W) => (show Calls _ _ _ _ _ from resolve_any X g cap t r vd va p W (h.up hb).gm h.hp (h.up hb).x h.ok))
  have hpar := resolve_par h.ok r.u p
  have C2 := Lib.hid (fun W (hb : Below w.heap.size w W) => allows_any X g cap t r vd va (resolveF t r.u p).1.p 2 W (h.up hb).x hpar)
  have B0 := Lib.hid (show Below w.heap.size w (w.alloc (.cells #[.int .i64 0, .string ⟨#[]⟩, .int .i64 0] 160)) from (Below.refl _ _).alloc (Nat.le_refl _) _)
  have P0' := Lib.hid (show PB (w.alloc (.cells #[.int .i64 0, .string ⟨#[]⟩, .int .i64 0] 160)) w.heap.size P0 from PB.new w P0 _)
  have HE : Hid (entryF t r.u p = if (resolveF t r.u p).2 ≠ 0 then ((resolveF t r.u p).1, (resolveF t r.u p).2)
    else if (resolveF t r.u p).1.n = ByteArray.empty then ((resolveF t r.u p).1, 12)
    else if alw t (resolveF t r.u p).1.p r.u 2 = false then ((resolveF t r.u p).1, 13) else ((resolveF t r.u p).1, (resolveF t r.u p).2)) := Lib.hid rfl
  clear h hpar
  generalize entryF t r.u p = U at *
  generalize (resolveF t r.u p).2 = c at *
  generalize alw t (resolveF t r.u p).1.p r.u 2 = q at *
  generalize (resolveF t r.u p).1 = a at *
  obtain ⟨⟨up, un, ui⟩, uc⟩ := U
  obtain ⟨ap, an, ai⟩ := a
  unfold plV at *
  simp only at *
  go_enter Tryz.func157, Tryz.ntmps157
  go_wp2_with fail
  refine (C1.out _ B0.out).mono ?_
  rintro e w1 ⟨rfl, b1⟩
  have P1 := Lib.hid (P0'.out.up b1)
  have B1 := Lib.hid (B0.out.trans (b1.mono B0.out.size))
  clear b1 P0' B0 C1
  obtain ⟨l0, d0, d1, d2, e0, e1, e2⟩ := P1.out
  have P2 := Lib.hid (P1.out.put ⟨ap, an, ai⟩)
  have B2 := Lib.hid (((B1.out.setCell (p := ⟨w.heap.size, 0, none⟩) (Nat.le_refl _) (.int .i64 (ap : Int))).setCell (p := ⟨w.heap.size, 1, none⟩) (Nat.le_refl _) (.string an)).setCell (p := ⟨w.heap.size, 2, none⟩) (Nat.le_refl _) (.int .i64 ai))
  clear P1 B1
  go_upto_region 2 with fail
  generalize hw2 : ((w1.setCell _ _).setCell _ _).setCell _ _ = w2 at *
  clear hw2 l0 d0 d1 d2 e0 e1 e2
  obtain ⟨l0, d0, d1, d2, e0, e1, e2⟩ := P2.out
  simp only at d0 d1 d2
  by_cases hc : c = 0
  · subst hc
    rw [if_neg (by simp)] at HE
    by_cases hn : an = ByteArray.empty
    · subst hn
      rw [if_pos rfl] at HE
      have hR := HE.out
      injection hR with hR1 hR2
      injection hR1 with hR3 hR4 hR5
      subst hR2 hR3 hR4 hR5
      clear HE C2
      have hnl : ByteArray.empty.toList = [] := toList_nil.2 rfl
      go_wp2
      exact bodyPost_ret (v := .tuple #[.agg #[.int .i64 (up : Int), .string ByteArray.empty, .int .i64 ui], .int .i64 12]) (by simp [results, Tryz.results157, go_sem, l0, d0, d1, d2]; try rfl) rfl ⟨rfl, ((B2.out.setCell (p := ⟨w.heap.size, 0, none⟩) (Nat.le_refl _) _).setCell (p := ⟨w.heap.size, 1, none⟩) (Nat.le_refl _) _).setCell (p := ⟨w.heap.size, 2, none⟩) (Nat.le_refl _) _⟩
    · rw [if_neg hn] at HE
      have hnl : an.toList.isEmpty = false := by rw [isEmpty_str]; simpa using hn
      have hnl2 : ¬ an.toList = [] := fun e => hn (toList_nil.1 e)
      clear hn
      go_wp2_with fail
      refine (C2.out _ B2.out).mono ?_
      rintro e w3 ⟨rfl, b3⟩
      have P3 := Lib.hid (P2.out.up b3)
      have B3 := Lib.hid (B2.out.trans (b3.mono B2.out.size))
      clear b3 l0 d0 d1 d2 e0 e1 e2 C2
      obtain ⟨l0, d0, d1, d2, e0, e1, e2⟩ := P3.out
      simp only at d0 d1 d2
      cases q with
      | false =>
        rw [if_pos rfl] at HE
        have hR := HE.out
        injection hR with hR1 hR2
        injection hR1 with hR3 hR4 hR5
        subst hR2 hR3 hR4 hR5
        clear HE
        go_wp2
        exact bodyPost_ret (v := .tuple #[.agg #[.int .i64 (up : Int), .string un, .int .i64 ui], .int .i64 13]) (by simp [results, Tryz.results157, go_sem, l0, d0, d1, d2]; try rfl) rfl ⟨rfl, ((B3.out.setCell (p := ⟨w.heap.size, 0, none⟩) (Nat.le_refl _) _).setCell (p := ⟨w.heap.size, 1, none⟩) (Nat.le_refl _) _).setCell (p := ⟨w.heap.size, 2, none⟩) (Nat.le_refl _) _⟩
      | true =>
        rw [if_neg (by simp)] at HE
        have hR := HE.out
        injection hR with hR1 hR2
        injection hR1 with hR3 hR4 hR5
        subst hR2 hR3 hR4 hR5
        clear HE
        go_wp2
        exact bodyPost_ret (v := .tuple #[.agg #[.int .i64 (up : Int), .string un, .int .i64 ui], .int .i64 0]) (by simp [results, Tryz.results157, go_sem, l0, d0, d1, d2]; try rfl) rfl ⟨rfl, ((B3.out.setCell (p := ⟨w.heap.size, 0, none⟩) (Nat.le_refl _) _).setCell (p := ⟨w.heap.size, 1, none⟩) (Nat.le_refl _) _).setCell (p := ⟨w.heap.size, 2, none⟩) (Nat.le_refl _) _⟩
  · rw [if_pos hc] at HE
    have hR := HE.out
    injection hR with hR1 hR2
    injection hR1 with hR3 hR4 hR5
    subst hR2 hR3 hR4 hR5
    have hc1 : (uc != 0) = true := by simpa using hc
    clear HE C2 hc
    go_wp2
    exact bodyPost_ret (v := .tuple #[.agg #[.int .i64 (up : Int), .string un, .int .i64 ui], .int .i64 uc]) (by simp [results, Tryz.results157, go_sem, l0, d0, d1, d2]; try rfl) rfl ⟨rfl, ((B2.out.setCell (p := ⟨w.heap.size, 0, none⟩) (Nat.le_refl _) _).setCell (p := ⟨w.heap.size, 1, none⟩) (Nat.le_refl _) _).setCell (p := ⟨w.heap.size, 2, none⟩) (Nat.le_refl _) _⟩

set_option maxRecDepth 100000 in
set_option maxHeartbeats 2000000 in
theorem mustBeRemovable_any (X g cap : Nat) (t : FT) (r : Rq) (vd va : Value) (p : ByteArray) (w : World) (h : Way w X g cap t r vd va p) :
    Calls Tryz.prog 131 #[.pointer (some ⟨X, 0, none⟩), .string p] w fun e w' => e = .returned (.tuple #[plV (removeF t r.u p).1, .int .i64 (removeF t r.u p).2]) ∧ Below w.heap.size w w' := by
  have C1 := Lib.hid (fun W (hb : Below w.heap.size w W) => (show Calls _ _ _ _ _ from resolveEntry_any X g cap t r vd va p W (h.up hb)))
  have C2 := Lib.hid (fun W => unlessMissing_any (entryF t r.u p).1 (entryF t r.u p).2 W)
  have B0 := Lib.hid (show Below w.heap.size w (w.alloc (.cells #[.int .i64 0, .string ⟨#[]⟩, .int .i64 0] 160)) from (Below.refl _ _).alloc (Nat.le_refl _) _)
  have P0' := Lib.hid (show PB (w.alloc (.cells #[.int .i64 0, .string ⟨#[]⟩, .int .i64 0] 160)) w.heap.size P0 from PB.new w P0 _)
  unfold removeF
  clear h
  rw [show ((entryF t r.u p).1, (entryF t r.u p).2) = entryF t r.u p from rfl] at C2
  generalize unlessF (entryF t r.u p) = U at *
  generalize (entryF t r.u p).1 = a at *
  generalize (entryF t r.u p).2 = c at *
  obtain ⟨⟨up, un, ui⟩, uc⟩ := U
  obtain ⟨ap, an, ai⟩ := a
  unfold plV at *
  simp only at *
  go_enter Tryz.func131, Tryz.ntmps131
  go_wp2_with fail
  refine (C1.out _ B0.out).mono ?_
  rintro e w1 ⟨rfl, b1⟩
  have P1 := Lib.hid (P0'.out.up b1)
  have B1 := Lib.hid (B0.out.trans (b1.mono B0.out.size))
  clear b1
  go_wp2_with fail
  refine (C2.out _).mono ?_
  rintro e w2 ⟨rfl, b2⟩
  have P2 := P1.out.up b2
  have B2 := Lib.hid (B1.out.trans (b2.mono B1.out.size))
  obtain ⟨l0, d0, d1, d2, e0, e1, e2⟩ := P2
  clear b2
  go_wp2
  exact bodyPost_ret (v := .tuple #[.agg #[.int .i64 (up : Int), .string un, .int .i64 ui], .int .i64 uc]) (by simp [results, Tryz.results131, go_sem, l0, d0, d1, d2]; try rfl) rfl ⟨rfl, ((B2.out.setCell (p := ⟨w.heap.size, 0, none⟩) (Nat.le_refl _) _).setCell (p := ⟨w.heap.size, 1, none⟩) (Nat.le_refl _) _).setCell (p := ⟨w.heap.size, 2, none⟩) (Nat.le_refl _) _⟩


set_option maxRecDepth 100000 in
set_option maxHeartbeats 4000000 in
theorem mustBeVacant_any (X g cap : Nat) (t : FT) (r : Rq) (vd va : Value) (p : ByteArray) (w : World) (h : Way w X g cap t r vd va p) :
    Calls Tryz.prog 122 #[.pointer (some ⟨X, 0, none⟩), .string p] w fun e w' => e = .returned (.tuple #[plV (vacantF t r.u p).1, .int .i64 (vacantF t r.u p).2]) ∧ Below w.heap.size w w' := by
  have C1 := Lib.hid (fun W (hb : Below w.heap.size w W) => (show Calls _ _ _ _ _ from resolveEntry_any X g cap t r vd va p W (h.up hb)))
  have B0 := Lib.hid (show Below w.heap.size w (w.alloc (.cells #[.int .i64 0, .string ⟨#[]⟩, .int .i64 0] 160)) from (Below.refl _ _).alloc (Nat.le_refl _) _)
  have P0' := Lib.hid (show PB (w.alloc (.cells #[.int .i64 0, .string ⟨#[]⟩, .int .i64 0] 160)) w.heap.size P0 from PB.new w P0 _)
  have HE : Hid (vacantF t r.u p = if (entryF t r.u p).2 = 0 ∧ (entryF t r.u p).1.i ≠ -1 then ((entryF t r.u p).1, 7) else ((entryF t r.u p).1, (entryF t r.u p).2)) := Lib.hid rfl
  clear h
  generalize vacantF t r.u p = U at *
  generalize (entryF t r.u p).2 = c at *
  generalize (entryF t r.u p).1 = a at *
  obtain ⟨ap, an, ai⟩ := a
  unfold plV at *
  simp only at *
  go_enter Tryz.func122, Tryz.ntmps122
  go_wp2_with fail
  refine (C1.out _ B0.out).mono ?_
  rintro e w1 ⟨rfl, b1⟩
  have P1 := Lib.hid (P0'.out.up b1)
  have B1 := Lib.hid (B0.out.trans (b1.mono B0.out.size))
  clear b1 P0' B0 C1
  obtain ⟨l0, d0, d1, d2, e0, e1, e2⟩ := P1.out
  have P2 := Lib.hid (P1.out.put ⟨ap, an, ai⟩)
  have B2 := Lib.hid (((B1.out.setCell (p := ⟨w.heap.size, 0, none⟩) (Nat.le_refl _) (.int .i64 (ap : Int))).setCell (p := ⟨w.heap.size, 1, none⟩) (Nat.le_refl _) (.string an)).setCell (p := ⟨w.heap.size, 2, none⟩) (Nat.le_refl _) (.int .i64 ai))
  clear P1 B1
  go_upto_region 2 with fail
  generalize hw2 : ((w1.setCell _ _).setCell _ _).setCell _ _ = w2 at *
  clear hw2 l0 d0 d1 d2 e0 e1 e2
  obtain ⟨l0, d0, d1, d2, e0, e1, e2⟩ := P2.out
  simp only at d0 d1 d2
  by_cases hc : c = 0
  · subst hc
    by_cases hi : ai = -1
    · subst hi
      rw [if_neg (fun h => h.2 rfl)] at HE
      go_wp2
      exact bodyPost_ret (v := .tuple #[.agg #[.int .i64 (ap : Int), .string an, .int .i64 (-1)], .int .i64 0]) (by simp [results, Tryz.results122, go_sem, l0, d0, d1, d2]; try rfl) rfl ⟨by rw [HE.out], ((B2.out.setCell (p := ⟨w.heap.size, 0, none⟩) (Nat.le_refl _) _).setCell (p := ⟨w.heap.size, 1, none⟩) (Nat.le_refl _) _).setCell (p := ⟨w.heap.size, 2, none⟩) (Nat.le_refl _) _⟩
    · rw [if_pos ⟨rfl, hi⟩] at HE
      have hi1 : (ai != -1) = true := by simpa using hi
      clear hi
      go_wp2
      exact bodyPost_ret (v := .tuple #[.agg #[.int .i64 (ap : Int), .string an, .int .i64 ai], .int .i64 7]) (by simp [results, Tryz.results122, go_sem, l0, d0, d1, d2]; try rfl) rfl ⟨by rw [HE.out], ((B2.out.setCell (p := ⟨w.heap.size, 0, none⟩) (Nat.le_refl _) _).setCell (p := ⟨w.heap.size, 1, none⟩) (Nat.le_refl _) _).setCell (p := ⟨w.heap.size, 2, none⟩) (Nat.le_refl _) _⟩
  · rw [if_neg (fun h => hc h.1)] at HE
    have hc1 : (c == 0) = false := by simpa using hc
    clear hc
    go_wp2
    exact bodyPost_ret (v := .tuple #[.agg #[.int .i64 (ap : Int), .string an, .int .i64 ai], .int .i64 c]) (by simp [results, Tryz.results122, go_sem, l0, d0, d1, d2]; try rfl) rfl ⟨by rw [HE.out], ((B2.out.setCell (p := ⟨w.heap.size, 0, none⟩) (Nat.le_refl _) _).setCell (p := ⟨w.heap.size, 1, none⟩) (Nat.le_refl _) _).setCell (p := ⟨w.heap.size, 2, none⟩) (Nat.le_refl _) _⟩

end Go.Proofs.YtmbbmmnpkdfecaaGreatDoor

/- reach of package memfs: the inode of the request's path, of a kind, with a permission. Conditions: the execution lies in memory as it reads; the tree's inodes are valid by themselves. -/

set_option linter.all false
namespace Go.Proofs.YtmbbmmnpkdfecaaGreatDoor
open Go.RowKit

def reachF (t : FT) (u : Int) (p : ByteArray) (kind perm : Int) : Int × Int :=
  if (existF t u p).2 ≠ 0 then (0, (existF t u p).2)
  else if kind ≠ 0 ∧ kind ≠ (ino t (existF t u p).1.i.toNat).k then (0, 8)
  else if perm ≠ 0 ∧ alw t (existF t u p).1.i.toNat u perm = false then (0, 13)
  else ((existF t u p).1.i, 0)
theorem resP_in {t : FT} (h1 : Ok1 (tr t)) (u : Int) : ∀ (xs : List ByteArray) (a : Pl), (a.i = -1 ∨ (0 ≤ a.i ∧ a.i.toNat < t.length)) → (resP t u xs a).1.i = -1 ∨ (0 ≤ (resP t u xs a).1.i ∧ (resP t u xs a).1.i.toNat < t.length)
  | [], a, hi => by rw [resP]; exact hi
  | c :: cs, a, hi => by
    have h0 : 0 < t.length := by have := h1.ne; rwa [tr_len] at this
    rw [resP]
    split
    · exact .inr ⟨by simp, by simpa using h0⟩
    · split
      · exact .inr ⟨by simp, by simpa using h0⟩
      · split
        · exact .inr ⟨by simp, by simpa using h0⟩
        · refine resP_in h1 u cs _ ?_
          rcases look_range h1 a.i.toNat c with h9 | h9
          · exact .inl h9
          · exact .inr ⟨by have := h9.1; simp only; omega, h9.2⟩
theorem resolve_in {t : FT} (h1 : Ok1 (tr t)) (u : Int) (p : ByteArray) : (resolveF t u p).1.i = -1 ∨ (0 ≤ (resolveF t u p).1.i ∧ (resolveF t u p).1.i.toNat < t.length) := by
  have h0 : 0 < t.length := by have := h1.ne; rwa [tr_len] at this
  exact resP_in h1 u _ _ (.inr ⟨by simp, by simpa using h0⟩)
theorem exist_in {t : FT} (h1 : Ok1 (tr t)) {u : Int} {p : ByteArray} (hc : (existF t u p).2 = 0) : 0 ≤ (existF t u p).1.i ∧ (existF t u p).1.i.toNat < t.length := by
  unfold existF unlessF at hc ⊢
  split at hc
  · cases hc
  · rename_i hn
    rw [if_neg hn]
    exact (resolve_in h1 u p).resolve_left (fun e => hn ⟨hc, e⟩)

set_option maxRecDepth 100000 in
set_option maxHeartbeats 4000000 in
theorem reach_any (X g cap : Nat) (t : FT) (r : Rq) (vd va : Value) (kind perm : Int) (w : World) (h : Way w X g cap t r vd va r.p) :
    Calls Tryz.prog 67 #[.pointer (some ⟨X, 0, none⟩), .int .i64 kind, .int .i64 perm] w fun e w' => e = .returned (.tuple #[.int .i64 (reachF t r.u r.p kind perm).1, .int .i64 (reachF t r.u r.p kind perm).2]) ∧ Below w.heap.size w w' := by
  have C1 := Lib.hid (mustExist_any X g cap t r vd va r.p w h)
  have HIN := Lib.hid (fun hc => exist_in h.ok (u := r.u) (p := r.p) hc)
  have HX := Lib.hid h.x
  have HE1 := Lib.hid (show (existF t r.u r.p).2 ≠ 0 → reachF t r.u r.p kind perm = (0, (existF t r.u r.p).2) from fun h9 => by unfold reachF; rw [if_pos h9])
  have HE2 := Lib.hid (show (existF t r.u r.p).2 = 0 → (kind ≠ 0 ∧ kind ≠ (ino t (existF t r.u r.p).1.i.toNat).k) → reachF t r.u r.p kind perm = (0, 8) from fun h9 h8 => by unfold reachF; rw [if_neg (by simpa using h9), if_pos h8])
  have HE3 := Lib.hid (show (existF t r.u r.p).2 = 0 → ¬(kind ≠ 0 ∧ kind ≠ (ino t (existF t r.u r.p).1.i.toNat).k) → perm ≠ 0 → alw t (existF t r.u r.p).1.i.toNat r.u perm = false → reachF t r.u r.p kind perm = (0, 13) from fun h9 h8 h7 h6 => by unfold reachF; rw [if_neg (by simpa using h9), if_neg h8, if_pos ⟨h7, h6⟩])
  have HE4 := Lib.hid (show (existF t r.u r.p).2 = 0 → ¬(kind ≠ 0 ∧ kind ≠ (ino t (existF t r.u r.p).1.i.toNat).k) → (perm = 0 ∨ alw t (existF t r.u r.p).1.i.toNat r.u perm = true) → reachF t r.u r.p kind perm = ((existF t r.u r.p).1.i, 0) from fun h9 h8 h7 => by unfold reachF; rw [if_neg (by simpa using h9), if_neg h8, if_neg (by rcases h7 with h7 | h7 <;> simp [h7])])
  have x3 := h.x.b.c 3 _ rfl
  have xl := h.x.b.lt
  clear h
  generalize reachF t r.u r.p kind perm = U at *
  generalize (existF t r.u r.p).2 = c at *
  generalize (existF t r.u r.p).1 = a at *
  obtain ⟨ap, an, ai⟩ := a
  unfold plV at *
  simp only at *
  go_enter Tryz.func67, Tryz.ntmps67
  go_wp2_with fail
  refine C1.out.mono ?_
  rintro e w1 ⟨rfl, b1⟩
  have hs1 := b1.size
  have B2 := Lib.hid (show Below w.heap.size w (w1.alloc (.cells #[.int .i64 (ap : Int), .string an, .int .i64 ai] 160)) from b1.alloc b1.size _)
  have P2 := Lib.hid (PB.new w1 ⟨ap, an, ai⟩ 160)
  have XL := Lib.hid (Nat.lt_of_lt_of_le xl hs1)
  clear b1 x3 xl C1
  by_cases hc : c = 0
  · subst hc
    obtain ⟨hi0, hi1⟩ := HIN.out rfl
    obtain ⟨n, rfl⟩ := Int.eq_ofNat_of_zero_le hi0
    simp only [Int.toNat_natCast] at hi1 HE2 HE3 HE4
    clear HIN hi0 HE1
    have X2 := Lib.hid (HX.out.up B2.out)
    have CA := Lib.hid (fun W (hb : Below w.heap.size w W) => allows_any X g cap t r vd va n perm W (HX.out.up hb) hi1)
    obtain ⟨hg2, ⟨se, sd, sa, sx⟩, hcn, _, _⟩ := X2.out.one hi1
    have c0 : (w1.alloc (.cells #[.int .i64 (ap : Int), .string an, .int .i64 (n : Int)] 160)).cell? ⟨g, n * 8, none⟩ = some (.int .i64 (ino t n).k) := hcn.c0
    clear hcn
    generalize alw t n r.u perm = q at *
    generalize (ino t n).k = kk at *
    go_upto_region 4 with fail
    have x0 := X2.out.b.c 0 _ rfl
    have xl2 := X2.out.b.lt
    obtain ⟨l0, d0, d1, d2, e0, e1, e2⟩ := P2.out
    simp only at d0 d1 d2
    have h40 := X2.out.len
    have nz : (n : Int) < (t.length : Int) := by omega
    have n0 : (0 : Int) ≤ (n : Int) := Int.natCast_nonneg _
    generalize hw2 : w1.alloc _ = w2 at *
    generalize w1.heap.size = A at *
    clear hw2 XL hs1
    clear X2 HX
    generalize hL : t.length = L at *
    clear hL
    go_cut [23] from 24 to 39 (fun s23 wx => s23 = .bool (kind != 0 && kind != kk) ∧ Below w2.heap.size w2 wx)
    case first =>
      clear CA HE2 HE3 HE4
      by_cases hk : kind = 0
      · subst hk
        go_quiet (fail)
        go_wp2_with fail
        all_goals
          go_meet
          case rel => exact ⟨rfl, below_drewN (Below.refl _ _) _⟩
      · have hk1 : (kind != 0) = true := by simpa using hk
        clear hk
        go_quiet (fail)
        go_wp2_with fail
        all_goals
          go_meet
          case rel => exact ⟨by rw [hk1]; rfl, below_drewN (Below.refl _ _) _⟩
    case rest =>
    obtain ⟨rfl, b3⟩ := hcut
    obtain ⟨w3, rfl⟩ : ∃ w3 : World, w3 = wc := ⟨_, rfl⟩
    have B3 := Lib.hid (B2.out.trans (b3.mono B2.out.size))
    have CA3 := Lib.hid (CA.out w3 B3.out)
    have P3 := P2.out.up b3
    clear d0 d1 d2 e0 e1 e2 l0 c0 x0 CA b3 B2 P2
    obtain ⟨l0, d0, d1, d2, e0, e1, e2⟩ := P3
    simp only at d0 d1 d2
    have HK : Hid ((kind != 0 && kind != kk) = decide (kind ≠ 0 ∧ kind ≠ kk)) := Lib.hid (by rw [Bool.eq_iff_iff]; simp)
    by_cases hk : kind ≠ 0 ∧ kind ≠ kk
    · rw [decide_eq_true hk] at HK
      rw [HK.out]
      have hR := HE2.out trivial hk
      subst hR
      clear HE2 HE3 HE4 HK hk
      go_wp2
      go_ret2
      exact ⟨rfl, B3.out⟩
    · rw [decide_eq_false hk] at HK
      rw [HK.out]
      have HF3 := Lib.hid (HE3.out trivial hk)
      have HF4 := Lib.hid (HE4.out trivial hk)
      clear HK hk HE2 HE3 HE4
      by_cases hp : perm = 0
      · subst hp
        have hR := HF4.out (.inl rfl)
        subst hR
        clear HF3 HF4
        go_wp2
        go_ret2
        exact ⟨rfl, B3.out⟩
      · have hp1 : (perm != 0) = true := by simpa using hp
        cases q with
        | false =>
          have hR := HF3.out hp rfl
          subst hR
          clear HF3 HF4 hp
          go_wp2_with fail
          refine CA3.out.mono ?_
          rintro e w4 ⟨rfl, b4⟩
          have B4 := B3.out.trans (b4.mono B3.out.size)
          clear b4
          go_wp2
          go_ret2
          exact ⟨rfl, B4⟩
        | true =>
          have hR := HF4.out (.inr rfl)
          subst hR
          clear HF3 HF4 hp
          go_wp2_with fail
          refine CA3.out.mono ?_
          rintro e w4 ⟨rfl, b4⟩
          have B4 := Lib.hid (B3.out.trans (b4.mono B3.out.size))
          have d2b := (b4.cell (p := ⟨A, 2, none⟩) l0).trans d2
          have l0b := Nat.lt_of_lt_of_le l0 b4.size
          clear b4 d0 d1 d2 e0 e1 e2 l0
          go_wp2
          go_ret2
          exact ⟨rfl, B4.out⟩
  · have hR := HE1.out hc
    subst hR
    have hc1 : (c != 0) = true := by simpa using hc
    clear HE1 HE2 HE3 HE4 hc HIN
    go_wp2
    go_ret2
    exact ⟨rfl, B2.out⟩

end Go.Proofs.YtmbbmmnpkdfecaaGreatDoor

/- The name of a place that is found is no longer than the path; its parent's entries are sorted, of sixteen at the most. Conditions: as each theorem states. -/

set_option linter.all false
namespace Go.Proofs.YtmbbmmnpkdfecaaGreatDoor
open Go.RowKit

theorem pieces_len : ∀ (s : List UInt8), ∀ q ∈ pieces s, q.length ≤ s.length
  | [], q, h => by
    unfold pieces at h
    rw [List.mem_singleton.1 h]; exact Nat.le_refl _
  | c :: r, q, h => by
    unfold pieces at h
    split at h
    · rcases List.mem_cons.1 h with h | h
      · rw [h]; exact Nat.zero_le _
      · have := pieces_len r q h
        simp only [List.length_cons]; omega
    · split at h
      · rw [List.mem_singleton.1 h]; simp
      · rename_i p ps he
        have h2 := pieces_len r
        rw [he] at h2
        rcases List.mem_cons.1 h with h | h
        · rw [h]
          have := h2 p (List.mem_cons_self ..)
          simp only [List.length_cons]; omega
        · have := h2 q (List.mem_cons_of_mem _ h)
          simp only [List.length_cons]; omega
theorem splitL_size {p x : ByteArray} (h : x ∈ splitL p) : x.size ≤ p.size := by
  unfold splitL at h
  split at h
  · split at h
    · cases h
    · rename_i c r he
      split at h
      · cases h
      · unfold comps at h
        obtain ⟨q, hq, rfl⟩ := List.mem_map.1 h
        have h1 := pieces_len r q hq
        have h2 : p.size = (c :: r).length := by rw [← he, Array.length_toList]; rfl
        rw [h2]
        have h3 : (toB q).size = q.length := by show (q.toArray).size = _; exact List.size_toArray
        rw [h3]
        simp only [List.length_cons]; omega
  · cases h
theorem resP_name (t : FT) (u : Int) (B : Nat) : ∀ (xs : List ByteArray) (a : Pl), a.n.size ≤ B → (∀ x ∈ xs, x.size ≤ B) → (resP t u xs a).1.n.size ≤ B
  | [], a, ha, _ => by rw [resP]; exact ha
  | c :: cs, a, ha, hx => by
    rw [resP]
    split
    · exact Nat.zero_le _
    · split
      · exact Nat.zero_le _
      · split
        · exact Nat.zero_le _
        · exact resP_name t u B cs _ (hx c (List.mem_cons_self ..)) (fun x h => hx x (List.mem_cons_of_mem _ h))
theorem resolve_name (t : FT) (u : Int) (p : ByteArray) : (resolveF t u p).1.n.size ≤ p.size :=
  resP_name t u p.size (splitL p) P0 (Nat.zero_le _) (fun _ h => splitL_size h)
theorem entry_name (t : FT) (u : Int) (p : ByteArray) : (entryF t u p).1.n.size ≤ p.size := by
  unfold entryF
  split
  · exact resolve_name t u p
  · split
    · exact resolve_name t u p
    · split
      · exact resolve_name t u p
      · exact resolve_name t u p
theorem vacant_name (t : FT) (u : Int) (p : ByteArray) : (vacantF t u p).1.n.size ≤ p.size := by
  unfold vacantF
  split
  · exact entry_name t u p
  · exact entry_name t u p
theorem entry_par {t : FT} (h1 : Ok1 (tr t)) (u : Int) (p : ByteArray) : (entryF t u p).1.p < t.length := by
  unfold entryF
  split
  · exact resolve_par h1 u p
  · split
    · exact resolve_par h1 u p
    · split
      · exact resolve_par h1 u p
      · exact resolve_par h1 u p
theorem vacant_par {t : FT} (h1 : Ok1 (tr t)) (u : Int) (p : ByteArray) : (vacantF t u p).1.p < t.length := by
  unfold vacantF
  split
  · exact entry_par h1 u p
  · exact entry_par h1 u p
theorem ok_srt {t : FT} (h1 : Ok1 (tr t)) (n : Nat) : SrtE (ino t n).es := by have := (h1.fine n).srt; rwa [nod_tr] at this
theorem ok_len {t : FT} (h1 : Ok1 (tr t)) (n : Nat) : (ino t n).es.length ≤ 16 := by have := (h1.fine n).len; rwa [nod_tr] at this

end Go.Proofs.YtmbbmmnpkdfecaaGreatDoor
