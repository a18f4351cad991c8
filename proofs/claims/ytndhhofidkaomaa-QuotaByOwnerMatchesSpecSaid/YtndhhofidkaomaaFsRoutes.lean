/- The reference's Routes: the places below an inode in breadth-first order, as a row. Conditions: the tree's inodes are valid by themselves, all walks from the start end; its cells lie in memory as they read. -/
import Derived.Test.YtndhhofidkaomaaFsRow
import Derived.Test.YtndhhofidkaomaaFsEnts

set_option linter.all false
namespace Go.Proofs.Ytndhhofidkaomaa
open Go.RowKit

/-- The children of a visit, the first k of them. -/
def someNext (t : Tr) (p : Vis) (k : Nat) : List Vis := ((kids t p.2).take k).map fun e => (p.1 ++ [e.n], e.i.toNat)
theorem someNext_zero (t : Tr) (p : Vis) : someNext t p 0 = [] := by unfold someNext; simp
theorem someNext_succ {t : Tr} {p : Vis} {k : Nat} (h : k < (kids t p.2).length) : someNext t p (k + 1) = someNext t p k ++ [(p.1 ++ [((kids t p.2).getD k D0).n], ((kids t p.2).getD k D0).i.toNat)] := by
  unfold someNext
  rw [List.take_succ_eq_append_getElem h, deD h, List.map_append]
  rfl
theorem someNext_all (t : Tr) (p : Vis) : someNext t p (kids t p.2).length = next t p := by
  unfold someNext next; rw [List.take_length]
theorem someNext_len (t : Tr) (p : Vis) (k : Nat) : (someNext t p k).length ≤ k := by unfold someNext; simp; omega
/-- Block n holds a route. -/
structure RBox (w : World) (n : Nat) (p : Vis) : Prop where
  lt : n < w.heap.size
  c0 : w.cell? ⟨n, 0, none⟩ = some (.string (bP p.1))
  c1 : w.cell? ⟨n, 1, none⟩ = some (.int .i64 (p.1.length : Nat))
  c2 : w.cell? ⟨n, 2, none⟩ = some (.int .i64 (p.2 : Nat))
theorem RBox.of_block {w w' : World} {n : Nat} {p : Vis} (h : RBox w n p) (hs : w.heap.size ≤ w'.heap.size) (hb : w'.heap[n]? = w.heap[n]?) : RBox w' n p :=
  ⟨Nat.lt_of_lt_of_le h.lt hs, (World.cell?_of_block (a := ⟨n, 0, none⟩) hb).trans h.c0, (World.cell?_of_block (a := ⟨n, 1, none⟩) hb).trans h.c1, (World.cell?_of_block (a := ⟨n, 2, none⟩) hb).trans h.c2⟩
theorem RBox.new (w : World) (p : Vis) (ty : TypeId) : RBox (w.alloc (.cells #[.string (bP p.1), .int .i64 (p.1.length : Nat), .int .i64 (p.2 : Nat)] ty)) w.heap.size p :=
  ⟨by simp, by simp, by simp, by simp⟩
theorem RBox.alloc {w : World} {n : Nat} {p : Vis} (h : RBox w n p) (o : Obj) : RBox (w.alloc o) n p :=
  h.of_block (by simp) (heap_alloc_old w o h.lt)

/-- What holds while the row grows: the tree's box at block w.heap.size, the row above it. -/
structure RtInv (w wr : World) (a : Option Addr) (n c : Nat) (v : Value) (L : List Vis) : Prop where
  b : Below w.heap.size w wr
  tb : One wr w.heap.size (.slice a n c)
  own : wr.ownsRow (w.heap.size + 1) 58 3 v L.length (flatV L)
theorem RtInv.step {w wr z : World} {a : Option Addr} {n c : Nat} {v : Value} {L : List Vis} (h : RtInv w wr a n c v L) (hb : Below wr.heap.size wr z) : RtInv w z a n c v L :=
  ⟨h.b.trans (hb.mono h.b.size), h.tb.below hb h.tb.lt, own_below h.own hb⟩
theorem RtInv.grow {w wr z : World} {a : Option Addr} {n c : Nat} {v v' : Value} {L L' : List Vis} (h : RtInv w wr a n c v L) (ho : z.ownsRow (w.heap.size + 1) 58 3 v' L'.length (flatV L')) (hg : wr.grownBy z v.ownBlock) : RtInv w z a n c v' L' :=
  ⟨h.b.trans ((Kept.of_grown (S := fun _ => False) hg).below h.b.size (fun _ hk => hk.elim) (fun g hg2 => by have := own_low h.own g hg2; omega)), h.tb.grown hg (fun e => by have := own_low h.own _ e.symm; omega), ho⟩

theorem RtInv.put {w wr y z : World} {a : Option Addr} {n c : Nat} {v v' : Value} {L : List Vis} {p : Vis} (h : RtInv w wr a n c v L) (hb : Below wr.heap.size wr y) (ho : z.ownsRow (w.heap.size + 1) 58 3 v' (L.length + 1) (flatV (L ++ [p]))) (hg : y.grownBy z v.ownBlock) : RtInv w z a n c v' (L ++ [p]) :=
  (h.step hb).grow (by simpa using ho) hg
theorem RBox.put {wr y z : World} {nb : Nat} {v : Value} {p : Vis} (h : RBox wr nb p) (hb : Below wr.heap.size wr y) (hg : y.grownBy z v.ownBlock) (hn : ∀ q, v.ownBlock = some q → q ≠ nb) : RBox z nb p :=
  (h.of_block hb.size (hb.block nb h.lt)).of_block hg.size (hg.block nb (Nat.lt_of_lt_of_le h.lt hb.size) (fun e => hn nb e.symm rfl))
theorem vis_lt {L : List Vis} {i : Nat} (h : i < L.length) : L.getD i V0 ∈ L := by rw [visD h]; exact List.getElem_mem h

theorem toL47 : (⟨#[47]⟩ : ByteArray).toList = [47] := by decide +kernel
theorem base_cases {xs : List ByteArray} (hv : ∀ x ∈ xs, vname x = true) : ∃ Bs : ByteArray, Bs = ⟨(flatP xs).toArray⟩ ∧ (((bP xs).toList == [47]) = true ∧ Bs = ⟨#[]⟩ ∨ ((bP xs).toList == [47]) = false ∧ Bs = bP xs) := by
  by_cases h : xs = []
  · subst h
    exact ⟨⟨#[]⟩, rfl, .inl ⟨by rw [bP_nil, toL47]; rfl, rfl⟩⟩
  · exact ⟨bP xs, by unfold bP; rw [pstr_flat h], .inr ⟨by rw [← toL47, beq_str]; simpa using bP_ne h hv, rfl⟩⟩
theorem sz_arr (l : List UInt8) : (⟨l.toArray⟩ : ByteArray).size = l.length := by simp [ByteArray.size]

set_option maxRecDepth 100000 in
set_option maxHeartbeats 8000000 in
theorem routes_any (a : Option Addr) (c : Nat) (t : Tr) (s : Nat) (w : World) (h1 : Ok1 t) (fr : From t s) (h : Nods w w.heap.size a c t) :
    Calls Try.prog 25 #[.agg #[.slice a t.length c], .int .i64 (s : Int)] w fun e w' => ∃ v L, e = .returned v ∧ Vs w' w'.heap.size v L ∧ (visits t s).Perm L ∧ (∀ q, v.ownBlock = some q → w.heap.size < q) ∧ Below w.heap.size w w' := by
  have H := Lib.hid h
  have H1 := Lib.hid h1
  have FR := Lib.hid fr
  have hlen := len_visits h1 fr
  have h40 := h1.le
  have I0 := Lib.hid (show RtInv w ((w.alloc (.cells #[.slice a t.length c] 24)).alloc (.cells #[.string ⟨#[47]⟩, .int .i64 0, .int .i64 (s : Int)] 58)) a t.length c (.slice (some ⟨w.heap.size + 1, 0, none⟩) 1 1) [([], s)] from
    ⟨((Below.refl _ _).alloc (Nat.le_refl _) _).alloc (by first | omega | (simp; done) | (simp; omega)) _, (One.new w _ _).alloc _, by have := vs_new (w.alloc (.cells #[.slice a t.length c] 24)) ([], s); rw [bP_nil] at this; simpa using this⟩)
  clear h h1 fr
  go_enter Try.func25, Try.ntmps25
  go_wp2_with fail
  have HLEN := Lib.hid (fun L i (b : Bfs t s L i) => b.len FR.out.fin)
  generalize hM : (visits t s).length = M at *
  go_loopg [5, 6, 7, 8, 9, 10] M (fun gg s5 s6 _ _ _ _ wr => ∃ (L : List Vis) (i : Nat), i ≤ L.length ∧ 0 < L.length ∧ M - i ≤ gg ∧ s6 = .int .i64 i ∧ Aside (Bfs t s L i) ∧ Aside (RtInv w wr a t.length c s5 L))
  case atStart => exact ⟨[([], s)], 0, by omega, by simp, by omega, rfl, Bfs.start, I0.out⟩
  case round =>
    obtain ⟨L, i, hi, hL0, hg, rfl, BF, I⟩ := hrel
    clear I0
    obtain ⟨w2, rfl⟩ : ∃ w2 : World, w2 = wr := ⟨_, rfl⟩
    have hLM := HLEN.out L i BF.out
    have hbs := I.out.b.size
    have tc := I.out.tb.c0
    have tl := I.out.tb.lt
    obtain ⟨rb, rc, rfl, hrc, _, hrb, hcell⟩ := vs_own I.out.own hL0
    by_cases hlt : i < L.length
    · have hltz : (i : Int) < (L.length : Int) := by omega
      have hi0 : (0 : Int) ≤ (i : Int) := Int.natCast_nonneg _
      have hm9 : M - (i + 1) < M - i := by omega
      obtain ⟨r0, r1, r2⟩ := hcell i hlt
      have hrch := BF.out.rch _ (vis_lt hlt)
      obtain ⟨hm, _, hvn⟩ := H1.out.rch hrch FR.out.lt FR.out.used
      have hxl : (L.getD i V0).1.length ≤ 40 := Nat.le_trans (FR.out.fin _ _ hrch) h40
      have HB := Lib.hid (show Bfs t s (L ++ next t (L.getD i V0)) (i + 1) from by rw [visD hlt]; exact BF.out.step FR.out.fin hlt)
      have hfs := flatP_size hvn
      have hbz := bP_size hvn
      obtain ⟨Bs, hBs, hcase⟩ := base_cases hvn
      have hcs := Lib.hid hBs
      clear hcell hrch hBs hvn
      generalize hp : L.getD i V0 = p at *
      obtain ⟨xs, m⟩ := p
      simp only at r0 r1 r2 hm hxl hfs hbz hcs hcase
      have mlz : (m : Int) < (t.length : Int) := by omega
      have mz : (0 : Int) ≤ (m : Int) := Int.natCast_nonneg _
      obtain ⟨b, o, ve, vd, va, vx, rfl, hb, hc, hs⟩ := H.out.one hm
      obtain ⟨ea, ec, rfl, hec, hel, hef, hex⟩ := hs.es
      have g2w := hc.c2
      change w.cell? ⟨b, o + m * 8 + 2, none⟩ = some (.slice ea (kids t m).length ec) at g2w
      have g2 := (I.out.b.cell (p := ⟨b, o + m * 8 + 2, none⟩) hb).trans g2w
      change (kids t m).length ≤ ec at hec
      change (kids t m).length ≤ 35184372088832 at hel
      have hk16 := (H1.out.fine m).len
      change (kids t m).length ≤ 16 at hk16
      have HEX := Lib.hid (show 0 < (kids t m).length → ∃ b o, ea = some ⟨b, o, none⟩ ∧ b < w.heap.size ∧ ∀ j, j < (kids t m).length →
        w.cell? ⟨b, o + j * 2, none⟩ = some (.string ((kids t m).getD j D0).n) ∧ w.cell? ⟨b, o + j * 2 + 1, none⟩ = some (.int .i64 ((kids t m).getD j D0).i) from hex)
      have HKD := Lib.hid (fun k (hk : k < (kids t m).length) => H1.out.kid (show (kids t m).getD k D0 ∈ kids t m from by rw [deD hk]; exact List.getElem_mem hk))
      have HSN := Lib.hid (fun k (hk : k < (kids t m).length) => someNext_succ (t := t) (p := (xs, m)) hk)
      have HSL := Lib.hid (fun k => someNext_len t (xs, m) k)
      have HSA := Lib.hid (someNext_all t (xs, m))
      have HSZ := Lib.hid (someNext_zero t (xs, m))
      clear hc hs hef hex
      generalize hn : (kids t m).length = n at *
      have I1 := Lib.hid (I.out.step ((Below.refl w2.heap.size w2).alloc (Nat.le_refl _) (.cells #[.string (bP xs), .int .i64 (xs.length : Nat), .int .i64 (m : Nat)] 58)))
      have R1 := Lib.hid (RBox.new w2 (xs, m) 58)
      have B1 := Lib.hid ((Below.refl w2.heap.size w2).alloc (Nat.le_refl _) (.cells #[.string (bP xs), .int .i64 (xs.length : Nat), .int .i64 (m : Nat)] 58))
      have HI := Lib.hid (own_in I.out.own)
      rcases hcase with ⟨ht, rfl⟩ | ⟨ht, rfl⟩
      all_goals
        go_wp2_with fail
        clear tc tl g2 ht r0 r1 r2
        go_loopg [5, 9, 10] n (fun gg s5 s9 _ wq => ∃ k : Nat, k ≤ n ∧ n - k ≤ gg ∧ s9 = .int .i64 k ∧ Aside (RtInv w wq (some ⟨b, o, none⟩) t.length c s5 (L ++ someNext t (xs, m) k)) ∧ Aside (RBox wq w2.heap.size (xs, m)) ∧ Aside (∀ q, s5.ownBlock = some q → q ≠ w2.heap.size))
        case atStart => exact ⟨0, by omega, by omega, rfl, by rw [HSZ.out, List.append_nil]; exact I1.out, R1.out, (show ∀ q, _ → _ from fun q hq => by have := HI.out q hq; omega)⟩
        case round =>
          obtain ⟨k, hk, hg2, rfl, IQ, RQ, NQ⟩ := hrel
          clear I1 R1 B1
          have hsl := HSL.out k
          have hbq := IQ.out.b.size
          have tc := IQ.out.tb.c0
          have tl := IQ.out.tb.lt
          have z0 := RQ.out.c0
          have z1 := RQ.out.c1
          have z2 := RQ.out.c2
          have zl := RQ.out.lt
          simp only at z0 z1 z2
          have g2 := (IQ.out.b.cell (p := ⟨b, o + m * 8 + 2, none⟩) hb).trans g2w
          have HIQ := Lib.hid (own_in IQ.out.own)
          by_cases hlk : k < n
          · have hlkz : (k : Int) < (n : Int) := by omega
            have hk0 : (0 : Int) ≤ (k : Int) := Int.natCast_nonneg _
            have hm8 : n - (k + 1) < n - k := by omega
            obtain ⟨be, oe, rfl, hbe, hje⟩ := HEX.out (by omega)
            have g0 := (IQ.out.b.cell (p := ⟨be, oe + k * 2, none⟩) hbe).trans (hje k hlk).1
            have g1 := (IQ.out.b.cell (p := ⟨be, oe + k * 2 + 1, none⟩) hbe).trans (hje k hlk).2
            have HS := Lib.hid (HSN.out k hlk)
            obtain ⟨q1, q2, q3, _, _⟩ := HKD.out k hlk
            clear hje
            generalize hy : (kids t m).getD k D0 = e at *
            obtain ⟨x, ei⟩ := e
            simp only at g0 g1 q1 q2 q3
            obtain ⟨n2, rfl⟩ := Int.eq_ofNat_of_zero_le (Int.le_of_lt q2)
            simp only [Int.toNat_natCast] at q3
            have hxs := (vname_size q1).2
            clear hy q1 q2
            simp only [Int.toNat_natCast] at HS
            have HL := Lib.hid (show L ++ someNext t (xs, m) (k + 1) = (L ++ someNext t (xs, m) k) ++ [(xs ++ [x], n2)] from by rw [HS.out, List.append_assoc])
            have hll : (L ++ someNext t (xs, m) k).length ≤ 700 := by rw [List.length_append]; omega
            have hl0 : 0 < (L ++ someNext t (xs, m) k).length := by rw [List.length_append]; omega
            generalize L ++ someNext t (xs, m) k = Lk at *
            obtain ⟨qb, qc, rfl, hqc, _, hqb, _⟩ := vs_own IQ.out.own hl0
            have hs1 : (bP xs).size + 1 ≤ 9223372036854775807 := by omega
            have hs2 : (bP xs).size + 1 + x.size ≤ 9223372036854775807 := by omega
            go_wp2_with (at_builtin; refine wpList_append_rt rfl (.tmp 50) (.tmp 62) rfl (w.heap.size + 1) _ _ Lk rfl (own_below IQ.out.own (((Below.refl wr.heap.size wr).alloc (Nat.le_refl _) _).alloc (by first | omega | (simp; done) | (simp; omega)) _)) (wr.heap.size + 1) (xs ++ [x], n2) rfl (by show _ = some (Value.string (bP (xs ++ [x]))); rw [← bP_snoc, ← hcs.out]; simp) (by simp) (by simp) (by omega) (by simp; omega) ?_; intro v3 w3 hown3 hg3 hq3)
            have IP := Lib.hid (RtInv.put IQ.out (hg := hg3) (ho := hown3) (hb := by exact (((Below.refl wr.heap.size wr).alloc (Nat.le_refl _) _).alloc (by first | omega | (simp; done) | (simp; omega)) _)))
            have RP := Lib.hid (RBox.put RQ.out (hg := hg3) (hn := NQ.out) (hb := by exact (((Below.refl wr.heap.size wr).alloc (Nat.le_refl _) _).alloc (by first | omega | (simp; done) | (simp; omega)) _)))
            have NP := Lib.hid (show ∀ q, v3.ownBlock = some q → q ≠ w2.heap.size from fun q hq => by
              rcases hq3 with h9 | h9
              · exact NQ.out q (h9.symm.trans hq)
              · rw [h9] at hq; injection hq with hq; simp at hq; omega)
            clear hown3 hg3 hq3
            go_roundg (n - (k + 1))
            case measure => omega
            case rel => exact ⟨k + 1, by omega, by omega, by go_num, by rw [HL.out]; exact IP.out, RP.out, NP.out⟩
          · have hkn : k = n := by omega
            have HE := Lib.hid (show Bfs t s (L ++ someNext t (xs, m) k) (i + 1) from by rw [hkn, HSA.out]; exact HB.out)
            have hll : i + 1 ≤ (L ++ someNext t (xs, m) k).length := by rw [List.length_append]; omega
            have hl0 : 0 < (L ++ someNext t (xs, m) k).length := by rw [List.length_append]; omega
            clear hkn
            go_wp2_with fail
            go_roundg (M - (i + 1))
            case measure => omega
            case rel => exact ⟨_, i + 1, hll, hl0, by omega, by go_num, HE.out, IQ.out⟩
    · obtain rfl : i = L.length := by omega
      have HP := Lib.hid BF.out.done
      have HV := Lib.hid (vs_own I.out.own hL0)
      have HO := Lib.hid (own_low I.out.own)
      go_wp2
      go_ret
      exact ⟨_, _, rfl, HV.out, HP.out, fun q hq => by have := HO.out q hq; omega, I.out.b⟩

end Go.Proofs.Ytndhhofidkaomaa
