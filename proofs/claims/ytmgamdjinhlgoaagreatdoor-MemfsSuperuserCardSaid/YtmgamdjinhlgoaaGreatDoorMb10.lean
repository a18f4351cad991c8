/- The program's package memfs, its trees, requests and replies in plain words and in memory: contracts of its functions.
   Condition: as each theorem states; this text: MfDel, FsUsage, FsQuota. -/
import Derived.Test.YtmgamdjinhlgoaaGreatDoorMb9
import Derived.Shelf.SlicesE.Kit
import Derived.IntWalk

set_option linter.all false

/- slices.Delete of one entry of a row of entries that the call owns. Conditions: the place lies within the row. -/
namespace Go.Proofs.YtmgamdjinhlgoaaGreatDoor
open Go.RowKit

theorem step_append_runI {P : Program} {ops : Array Oper} {o : Oper} {a : Act} {w : World} {K : Act → World → Prop} {Q : Exit → Act → World → Prop} {E : Prop}
    (hg : o.guard = none) (d x : Operand) (dT sT : TypeId) (hop : o.op = Op.call { callee := Callee.builtin Builtin.append, args := #[d, x], argTypes := #[dT, sT] })
    (v u : Value) (hd : a.eval d = v) (hx : a.eval x = u) {v' : Value} {w' : World} (hr : (Builtin.append_ #[dT, sT] o.type #[v, u]).run P w = .ok v' w') (hK : K (a.put o.dst v') w') :
    if Region.wanted o (yielded ops a.tmps) = true then Oper.wp P o a w K Q else E := by
  have hw : Region.wanted o (yielded ops a.tmps) = true := by simp [Region.wanted, hg]
  rw [if_pos hw]
  unfold Oper.wp
  simp [execOp, hop, resolve, invoke, builtin, hd, hx, hr, Result.andThen]
  exact hK

set_option maxHeartbeats 6400000 in
set_option maxRecDepth 100000 in
theorem delete_run (g n c i : Nat) (cur : Array Value) (F1 E F2 R : List Value) (w : World) (hg : w.heap[g]? = some (.cells cur 75 (0, 0))) (hi : i < n) (hnc : n ≤ c) (hc : c ≤ maxLen)
    (hcs : cur.toList = F1 ++ (E ++ (F2 ++ R))) (l1 : F1.length = i * 2) (lE : E.length = 2) (l2 : F2.length = (n - (i + 1)) * 2) (l3 : R.length = (c - n) * 2) (hone : ∀ v ∈ F2, v.oneCell' = true) :
    Calls Tryz.prog 92 #[.slice (some ⟨g, 0, none⟩) n c, .int .i64 i, .int .i64 ((i : Int) + 1)] w fun en w' =>
      en = .returned (.slice (some ⟨g, 0, none⟩) (n - 1) c) ∧ ∃ z, z.length = 2 ∧ w' = (w.drew.setRow g (splice cur.toList (i * 2) F2).toArray).setRow g (splice (splice cur.toList (i * 2) F2) ((n - 1) * 2) z).toArray := by
  obtain ⟨i0, hi0, hz0, hz1, hz2⟩ := info_de
  unfold maxLen at hc
  have hcl : cur.size = c * 2 := by
    have := congrArg List.length hcs
    simp only [Array.length_toList, List.length_append] at this
    omega
  obtain ⟨A, hA, hsrc⟩ : ∃ A : Addr, (if c = i + 1 then some (⟨g, 0, none⟩ : Addr) else some ⟨g, (i + 1) * 2, none⟩) = some A ∧ Hid (∀ t u, F2[t]? = some u → w.drew.cell? (A.add t) = some u) := by
    by_cases h : c = i + 1
    · refine ⟨⟨g, 0, none⟩, by simp [h], Lib.hid fun t u hu => ?_⟩
      have h0 : F2 = [] := List.eq_nil_of_length_eq_zero (by omega)
      rw [h0] at hu
      simp at hu
    · refine ⟨⟨g, (i + 1) * 2, none⟩, by simp [h], Lib.hid fun t u hu => ?_⟩
      rw [Addr.add_lit, cell_row (w := w.drew) hg, ← Array.getElem?_toList, hcs, List.getElem?_append_right (by omega), List.getElem?_append_right (by omega), List.getElem?_append_left (by have := (List.getElem?_eq_some_iff.1 hu).1; omega)]
      rwa [show (i + 1) * 2 + t - F1.length - E.length = t by omega]
  have hap : ∀ ty, (Builtin.append_ #[49, 49] ty #[.slice (some ⟨g, 0, none⟩) i c, .slice (some A) (n - (i + 1)) (c - (i + 1))]).run Tryz.prog w.drew = .ok (.slice (some ⟨g, 0, none⟩) (n - 1) c) (w.drew.setRow g (splice cur.toList (i * 2) F2).toArray) := fun ty => by
    have := run_append_room2 (P := Tryz.prog) w.drew 49 ty 75 i0 u_de hi0 hz1 g i c (n - (i + 1)) (c - (i + 1)) A cur _ hg F2 l2 hsrc.out hone (by omega) (by omega)
    rwa [show i + (n - (i + 1)) = n - 1 by omega] at this
  obtain ⟨cur1, hcur1⟩ : ∃ cur1 : Array Value, cur1 = (splice cur.toList (i * 2) F2).toArray := ⟨_, rfl⟩
  have hcl1 : cur1.size = c * 2 := by
    rw [hcur1]
    have := splice_size cur.toList F2 (i * 2) (by have := Array.length_toList (xs := cur); omega)
    simpa [hcl] using this
  obtain ⟨W1, hW1⟩ : ∃ W1, W1 = w.drew.setRow g cur1 := ⟨_, rfl⟩
  have hg1 : W1.heap[g]? = some (.cells cur1 75 (0, 0)) := by rw [hW1]; exact setRow_heap w.drew g _ _ _ _ hg
  rw [← hcur1] at hap
  rw [← hW1] at hap
  have hcr : ∀ ty, (Builtin.clear_ #[49] ty #[.slice (some ⟨g, (n - 1) * 2, none⟩) (n - (n - 1)) (c - (n - 1))]).run Tryz.prog W1 = .ok (.tuple #[]) (W1.setRow g (splice cur1.toList ((n - 1) * 2) (Builtin.zeroCells #[.string ⟨#[]⟩, .int .i64 0] (n - (n - 1))).toList).toArray) := fun ty =>
    run_clear2 W1 _ 75 ty _ _ u_de (fun w => by simp [zeroValue, typeInfo, hi0, hz0]) rfl rfl g ((n - 1) * 2) (n - (n - 1)) (c - (n - 1)) cur1 _ (by omega) hg1 (by omega)
  have hz1' : ¬ ((i : Int) = (i : Int) + 1) := by omega
  have hw1 : IntKind.i64.wrap ((i : Int) + 1) = (i : Int) + 1 := by rw [IntKind.wrap_i64]; omega
  have hb1 : (0 : Int) ≤ (i : Int) + 1 := by omega
  have hin : i ≤ n := by omega
  have hic : i ≤ c := by omega
  have htn : ((i : Int) + 1).toNat = i + 1 := by omega
  have hb3 : (i : Int) + 1 ≤ (n : Int) := by omega
  have hb5 : (i : Int) ≤ (i : Int) + 1 := by omega
  have hb6 : n - 1 ≤ n := by omega
  have hb7 : ¬ (c = n - 1) := by omega
  have mixed : Tryz.prog.follows .mixedOrders = true := by kernel_rfl
  have HC := Lib.hid hcur1; have HW := Lib.hid hW1
  clear hcur1 hW1 hcs hg hg1 l1 l2 l3 lE hsrc
  go_enter Tryz.func92, Tryz.ntmps92
  go_wp2_with fail
  go_region_law_o (refine step_append_runI rfl (.tmp 22) (.tmp 25) 49 49 rfl (.slice (some ⟨g, 0, none⟩) i c) (.slice (some A) (n - (i + 1)) (c - (i + 1))) (by simp [Act.eval, Act.put]) (by simp [Act.eval, Act.put]) (hap _) ?_)
  go_wp2_with (simp only [hcr])
  go_ret
  exact ⟨rfl, (Builtin.zeroCells #[.string ⟨#[]⟩, .int .i64 0] (n - (n - 1))).toList, by simp [Builtin.zeroCells]; omega, by rw [HW.out, HC.out]⟩

/-- What Delete leaves. -/
def DelPost (base : Nat) (v : Value) (es : List DE) (i : Nat) (w : World) (en : Ending) (w' : World) : Prop :=
  ∃ v', en = .returned v' ∧ w'.ownsRow base 75 2 v' (es.length - 1) (flatD (es.take i ++ es.drop (i + 1))) ∧ w.grownBy w' v.ownBlock ∧ v'.ownBlock = v.ownBlock

theorem delete_own (base : Nat) (v : Value) (es : List DE) (i : Nat) (w : World) (h : w.ownsRow base 75 2 v es.length (flatD es)) (hi : i < es.length) :
    Calls Tryz.prog 92 #[v, .int .i64 i, .int .i64 ((i : Int) + 1)] w (DelPost base v es i w) := by
  rcases h.2 with ⟨hnv, hn0⟩ | ⟨g, c, cur, hnv, hbg, hg, hnc, hcm, hcs, ht⟩
  · omega
  · subst hnv
    have hF : flatD es = flatD (es.take i) ++ (flatD (es.drop i |>.take 1) ++ flatD (es.drop (i + 1))) := by
      rw [← flatD_append, ← flatD_append]
      congr 1
      rw [show es.drop (i + 1) = (es.drop i).drop 1 by rw [List.drop_drop], List.take_append_drop, List.take_append_drop]
    have l1 : (flatD (es.take i)).length = i * 2 := by rw [flatD_len, List.length_take, Nat.min_eq_left (by omega)]
    have lE : (flatD (es.drop i |>.take 1)).length = 2 := by rw [flatD_len, List.length_take, List.length_drop, Nat.min_eq_left (by omega)]
    have l2 : (flatD (es.drop (i + 1))).length = (es.length - (i + 1)) * 2 := by rw [flatD_len, List.length_drop]
    have hcl : cur.toList = flatD (es.take i) ++ (flatD (es.drop i |>.take 1) ++ (flatD (es.drop (i + 1)) ++ cur.toList.drop (es.length * 2))) := by
      have : cur.toList = flatD es ++ cur.toList.drop (es.length * 2) := by rw [← ht, List.take_append_drop]
      rw [hF] at this
      simpa [List.append_assoc] using this
    have lR : (cur.toList.drop (es.length * 2)).length = (c - es.length) * 2 := by rw [List.length_drop, Array.length_toList, hcs]; omega
    refine (delete_run g es.length c i cur _ _ _ _ w hg hi hnc hcm hcl l1 lE l2 lR (flatD_one _)).mono ?_
    rintro en w' ⟨rfl, z, hz, rfl⟩
    have hs1 := splice_size cur.toList (flatD (es.drop (i + 1))) (i * 2) (by rw [Array.length_toList (xs := cur)]; omega)
    have hs2 := splice_size (splice cur.toList (i * 2) (flatD (es.drop (i + 1)))) z ((es.length - 1) * 2) (by rw [hs1, Array.length_toList (xs := cur)]; omega)
    have hL : ∃ R', splice (splice cur.toList (i * 2) (flatD (es.drop (i + 1)))) ((es.length - 1) * 2) z = flatD (es.take i ++ es.drop (i + 1)) ++ R' := by
      refine ⟨z ++ (splice cur.toList (i * 2) (flatD (es.drop (i + 1)))).drop ((es.length - 1) * 2 + z.length), ?_⟩
      have h2 : (splice cur.toList (i * 2) (flatD (es.drop (i + 1)))).take ((es.length - 1) * 2) = flatD (es.take i) ++ flatD (es.drop (i + 1)) := by
        have hp : cur.toList.take (i * 2) = flatD (es.take i) := by rw [hcl]; exact take_app _ _ _ l1
        unfold splice
        rw [hp, ← List.append_assoc]
        exact take_app _ _ _ (by rw [List.length_append, l1, l2]; omega)
      rw [flatD_append, ← h2]
      unfold splice
      rfl
    obtain ⟨R', hR'⟩ := hL
    refine ⟨_, rfl, own_new (rest := R') hbg (setRow_heap _ g _ _ _ _ (setRow_heap w.drew g _ _ _ _ hg)) (by omega) hcm ?_ ?_ ?_, ?_, rfl⟩
    · simp only [List.size_toArray, hs2, hs1, Array.length_toList]; exact hcs
    · rw [flatD_len, List.length_append, List.length_take, List.length_drop, Nat.min_eq_left (by omega)]; omega
    · simp only [hR']
    · exact grown_setRow (grown_setRow (grown_drew w _) g _ (Or.inl rfl)) g _ (Or.inl rfl)

end Go.Proofs.YtmgamdjinhlgoaaGreatDoor

/- usage and quotaCheck. Conditions: all inodes that are not free are reached; the tree's cells lie in memory as they read. -/
namespace Go.Proofs.YtmgamdjinhlgoaaGreatDoor
open Go.RowKit

theorem One.set {w : World} {n : Nat} {v : Value} (h : One w n v) (u : Value) : One (w.setCell ⟨n, 0, none⟩ u) n u :=
  ⟨by simpa using h.lt, World.cell?_setCell_same _ _ _ h.c0, by simpa using h.f0⟩
/-- What is counted so far. -/
structure UInv (W : World) (t : Tr) (a : Option Addr) (c pt ptot R pc Bt : Nat) (L : List Vis) : Prop where
  row : Row W R t.length (fun j => .bool (hasL L j))
  cv : One W pc (.slice (some ⟨R, 0, none⟩) t.length t.length)
  tot : One W ptot (.int .i64 (usg t L : Nat))
  tb : One W pt (.slice a t.length c)
  nd : Nods W Bt a c t
theorem UInv.below {W W' : World} {t : Tr} {a : Option Addr} {c pt ptot R pc Bt B : Nat} {L : List Vis} (h : UInv W t a c pt ptot R pc Bt L) (hb : Below B W W') (h1 : R < B) (h2 : ptot < B) (h3 : pc < B) (h4 : pt < B) (h5 : Bt ≤ B) : UInv W' t a c pt ptot R pc Bt L :=
  ⟨h.row.below hb h1, h.cv.below hb h3, h.tot.below hb h2, h.tb.below hb h4, h.nd.below (hb.mono h5)⟩

set_option maxRecDepth 100000 in
set_option maxHeartbeats 1600000 in
theorem usage1_any (t : Tr) (h1 : Ok1 t) (a : Option Addr) (c pt ptot R pc Bt : Nat) (d0 : Bt ≤ pt) (d1 : pt < ptot) (d2 : ptot < R) (d3 : R < pc) (W : World) (L : List Vis) (xs : List ByteArray) (n : Nat) (v : Value) (hp : pc < W.heap.size) (h : UInv W t a c pt ptot R pc Bt L) (hn : n < t.length) :
    Calls Tryz.prog 83 #[v, .int .i64 (n : Int), .pointer (some ⟨pc, 0, none⟩), .pointer (some ⟨ptot, 0, none⟩), .pointer (some ⟨pt, 0, none⟩)] W fun e W' => e = .returned (.tuple #[]) ∧ UInv W' t a c pt ptot R pc Bt (L ++ [(xs, n)]) ∧ Kept (fun b => b = R ∨ b = ptot) none W W' := by
  have nlz : (n : Int) < (t.length : Int) := by omega
  have nz : (0 : Int) ≤ (n : Int) := Int.natCast_nonneg _
  obtain ⟨b, o, ve, vd, va, vx, rfl, hb, hc, hs⟩ := h.nd.one hn
  obtain ⟨da, dc, rfl, _⟩ := hs.dl
  have h3 := hc.c3
  have hdl := (h1.fine n).dl
  have hul := usg_le h1 L
  have r0 := h.row.c n hn
  have rz := h.row.fz n
  have rl := h.row.lt
  have c0 := h.cv.c0
  have t0 := h.tot.c0
  have tz := h.tot.f0
  have b0 := h.tb.c0
  have hl5 : ptot < W.heap.size := by omega
  have hl6 : pt < W.heap.size := by omega
  have HI := Lib.hid h
  have HU := Lib.hid (usg_snoc (L := L) (p := (xs, n)) hn)
  clear hc hs h h1
  cases hx : hasL L n with
  | true =>
    rw [hx] at r0
    have HL := Lib.hid (show UInv W t (some ⟨b, o, none⟩) c pt ptot R pc Bt (L ++ [(xs, n)]) from
      ⟨HI.out.row.ext (fun j _ => by
        rw [hasL_snoc]
        by_cases e : n = j
        · subst e; simp [hx]
        · simp [e]), HI.out.cv, by rw [HU.out, if_pos hx]; exact HI.out.tot, HI.out.tb, HI.out.nd⟩)
    clear hx HU
    go_enter Tryz.func83, Tryz.ntmps83
    go_wp2
    go_end0
    exact ⟨rfl, HL.out, Kept.refl _ _ _⟩
  | false =>
    rw [hx] at r0
    have HR := Lib.hid (fun (f : Nat → Value) (hf : ∀ j, j < t.length → f j = (if j = n then Value.bool true else Value.bool (hasL L j))) j (hj : j < t.length) => (show f j = .bool (hasL (L ++ [(xs, n)]) j) from by
      rw [hf j hj, hasL_snoc]
      by_cases e : j = n
      · subst e; simp
      · rw [if_neg e, decide_eq_false (fun h => e h.symm), Bool.or_false]))
    have HU2 := Lib.hid (show usg t (L ++ [(xs, n)]) = usg t L + (nod t n).dl from by rw [HU.out, if_neg (by rw [hx]; simp)])
    clear hx HU
    have RR := Lib.hid (HI.out.row.put hn (.bool true))
    have HV := HI.out.nd
    generalize hu : usg t L = u at *
    generalize hd : (nod t n).dl = d at *
    have b1 : (W.setCell ⟨R, n, none⟩ (.bool true)).cell? ⟨ptot, 0, none⟩ = some (.int .i64 (u : Int)) := (World.cell?_setCell_other _ _ _ _ (by first | omega | (simp; done) | (simp; omega))).trans t0
    have b2 : (W.setCell ⟨R, n, none⟩ (.bool true)).cell? ⟨pt, 0, none⟩ = some (.slice (some ⟨b, o, none⟩) t.length c) := (World.cell?_setCell_other _ _ _ _ (by first | omega | (simp; done) | (simp; omega))).trans b0
    have b3 : (W.setCell ⟨R, n, none⟩ (.bool true)).cell? ⟨b, o + n * 8 + 3, none⟩ = some (.slice da d dc) := (World.cell?_setCell_other _ _ _ _ (by first | omega | (simp; done) | (simp; omega))).trans h3
    have FF := Lib.hid (show UInv ((W.setCell ⟨R, n, none⟩ (.bool true)).drew.setCell ⟨ptot, 0, none⟩ (.int .i64 ((u : Int) + (d : Int)))) t (some ⟨b, o, none⟩) c pt ptot R pc Bt (L ++ [(xs, n)]) from
      ⟨((show Row (W.setCell ⟨R, n, none⟩ (.bool true)).drew R t.length _ from ⟨RR.out.lt, RR.out.c, RR.out.fz⟩).far (by first | omega | (simp; done) | (simp; omega)) _).ext (HR.out _ (fun _ _ => rfl)), ((HI.out.cv.far (p := ⟨R, n, none⟩) (by first | omega | (simp; done) | (simp; omega)) (.bool true)).drew).far (by first | omega | (simp; done) | (simp; omega)) _, by
        have := ((HI.out.tot.far (p := ⟨R, n, none⟩) (by first | omega | (simp; done) | (simp; omega)) (.bool true)).drew).set (.int .i64 ((u : Int) + (d : Int)))
        rw [HU2.out]
        have e : ((u + d : Nat) : Int) = (u : Int) + (d : Int) := by omega
        rw [e]; exact this, ((HI.out.tb.far (p := ⟨R, n, none⟩) (by first | omega | (simp; done) | (simp; omega)) (.bool true)).drew).far (by first | omega | (simp; done) | (simp; omega)) _, HV.keep fun b' o' hb' => (World.cell?_setCell_other _ _ _ _ (by first | omega | (simp; done) | (simp; omega))).trans (World.cell?_setCell_other W _ _ _ (by first | omega | (simp; done) | (simp; omega)))⟩)
    have KK := Lib.hid (show Kept (fun b => b = R ∨ b = ptot) none W ((W.setCell ⟨R, n, none⟩ (.bool true)).drew.setCell ⟨ptot, 0, none⟩ (.int .i64 ((u : Int) + (d : Int)))) from
      (((Kept.refl _ _ _).set (.inl rfl) _).trans (Kept.of_below (Below.refl _ _).drew)).set (.inr rfl) _)
    have dz : (0 : Int) ≤ (d : Int) := Int.natCast_nonneg _
    have uz : (0 : Int) ≤ (u : Int) := Int.natCast_nonneg _
    go_enter Tryz.func83, Tryz.ntmps83
    have hwr : IntKind.i64.wrap ((u : Int) + (d : Int)) = (u : Int) + (d : Int) := IntWalk.i64_in _ (by omega)
    go_wp2
    go_region
    all_goals
      go_end0
      exact ⟨rfl, FF.out, KK.out⟩

end Go.Proofs.YtmgamdjinhlgoaaGreatDoor

/- usage at any inode from which all walks end, and quotaCheck. Conditions: as each theorem states; the tree's cells lie in memory as they read. -/
namespace Go.Proofs.YtmgamdjinhlgoaaGreatDoor
open Go.RowKit

theorem eg_usage1 : ∀ args w, (callFunc 83 args).run Tryz.prog w = .ok (.enter 83 args) w := enters_of Tryz.func83 (by kernel_rfl) rfl
set_option maxRecDepth 100000 in
set_option maxHeartbeats 1600000 in
theorem usage_any (a : Option Addr) (c : Nat) (t : Tr) (n : Nat) (w : World) (h1 : Ok1 t) (fr : From t n) (h : Nods w w.heap.size a c t) :
    Calls Tryz.prog 60 #[.agg #[.slice a t.length c], .int .i64 (n : Int)] w fun e w' => e = .returned (.int .i64 (usg t (visits t n) : Nat)) ∧ Below w.heap.size w w' := by
  have H := Lib.hid h
  have H1 := Lib.hid h1
  have FR := Lib.hid fr
  have hmk := make_bools t.length h1.le
  clear h h1 fr
  have BB := Lib.hid (show Below w.heap.size w ((((w.alloc (.cells #[.slice a t.length c] 25)).alloc (.cells #[.int .i64 0] 3)).alloc (.cells (madeCells #[.bool false] t.length) 4)).alloc (.cells #[.slice (some ⟨w.heap.size + 1 + 1, 0, none⟩) t.length t.length] 98)) from
    ((((Below.refl _ _).alloc (Nat.le_refl _) _).alloc (by first | omega | (simp; done) | (simp; omega)) _).alloc (by first | omega | (simp; done) | (simp; omega)) _).alloc (by first | omega | (simp; done) | (simp; omega)) _)
  have MM := Lib.hid (show UInv ((((w.alloc (.cells #[.slice a t.length c] 25)).alloc (.cells #[.int .i64 0] 3)).alloc (.cells (madeCells #[.bool false] t.length) 4)).alloc (.cells #[.slice (some ⟨w.heap.size + 1 + 1, 0, none⟩) t.length t.length] 98)) t a c w.heap.size (w.heap.size + 1) (w.heap.size + 1 + 1) (w.heap.size + 1 + 1 + 1) w.heap.size [] from
    ⟨(((row_new ((w.alloc _).alloc _) t.length (.bool false) _).alloc _).at_ (by simp)).ext (fun _ _ => rfl), (One.new (((w.alloc _).alloc _).alloc _) _ _).at_ (by simp), by rw [usg_nil]; exact (((One.new (w.alloc _) (.int .i64 0) _).alloc _).alloc _).at_ (by simp), (((One.new w _ _).alloc _).alloc _).alloc _, H.out.below BB.out⟩)
  go_enter Tryz.func60, Tryz.ntmps60
  go_wp2_with fail
  have VV : Visitor t n 83 #[.pointer (some ⟨w.heap.size + 1 + 1 + 1, 0, none⟩), .pointer (some ⟨w.heap.size + 1, 0, none⟩), .pointer (some ⟨w.heap.size, 0, none⟩)] (fun b => b = w.heap.size + 1 + 1 ∨ b = w.heap.size + 1) (w.heap.size + 4) (fun W L => UInv W t a c w.heap.size (w.heap.size + 1) (w.heap.size + 1 + 1) (w.heap.size + 1 + 1 + 1) w.heap.size L) (fun L p => L ++ [p]) := by
    refine ⟨eg_usage1, fun b hb => by omega, fun W W' s hI hb => hI.below hb (by omega) (by omega) (by omega) (by omega) (by omega), fun W s xs m v hH hI hr hx hv => ?_⟩
    have hnr := H1.out.rch hr FR.out.lt FR.out.used
    exact usage1_any t H1.out a c w.heap.size _ _ _ w.heap.size (by omega) (by omega) (by omega) (by omega) W s xs m v (by omega) hI hnr.1
  have HW := walk_any VV H1.out FR.out (Bt := w.heap.size) (by omega) (fun b hb => by omega) a c _ [] (H.out.below BB.out) (by first | omega | (simp; done) | (simp; omega)) MM.out
  clear VV
  refine HW.mono ?_
  rintro e W2 ⟨rfl, I2, K2⟩
  rw [foldl_snoc, List.nil_append] at I2
  have t0 := I2.tot.c0
  have B2 := Lib.hid (BB.out.trans (K2.below (by first | omega | (simp; done) | (simp; omega)) (fun k hk => by omega) (by simp)))
  clear I2 K2 HW
  go_wp2
  go_ret
  exact ⟨rfl, B2.out⟩

set_option maxRecDepth 100000 in
set_option maxHeartbeats 800000 in
theorem quotaCheck1_any (a : Option Addr) (c : Nat) (t : Tr) (n pt : Nat) (w : World) (hd : Head t) (hp3 : Pass t 3) (h : Nods w w.heap.size a c t) (hp : One w pt (.slice a t.length c)) (hn : n < t.length) :
    Calls Tryz.prog 59 #[.int .i64 (n : Int), .pointer (some ⟨pt, 0, none⟩)] w fun e w' => e = .returned (.int .i64 (codeQ t n)) ∧ Below w.heap.size w w' := by
  have o1 := Pass.ok1 hd (hp3.mono (by omega))
  have nlz : (n : Int) < (t.length : Int) := by omega
  have nz : (0 : Int) ≤ (n : Int) := Int.natCast_nonneg _
  have HF := Lib.hid (show codeQ t n = if (nod t n).q ≠ 0 ∧ (nod t n).q < (usg t (visits t n) : Int) then 14 else 0 from rfl)
  have HU := Lib.hid (fun (hk : (nod t n).k ≠ 0) => usage_any a c t n w o1 (Pass.from_ hd hp3 hn hk).1 h)
  have HK := Lib.hid (show (nod t n).q ≠ 0 → (nod t n).k ≠ 0 from fun hq hk => hq ((o1.fine n).dir (by rw [hk]; decide)).2)
  obtain ⟨b, o, ve, vd, va, vx, rfl, hb, hc, hs⟩ := h.one hn
  have h6 := hc.c6
  have b0 := hp.c0
  have bl := hp.lt
  clear hc hs h hp o1 hp3 hd
  generalize codeQ t n = r at *
  generalize usg t (visits t n) = u at *
  generalize (nod t n).q = q at *
  by_cases hq : q = 0
  · subst hq
    rw [if_neg (by simp)] at HF
    go_enter Tryz.func59, Tryz.ntmps59
    go_wp2
    go_ret
    exact ⟨ret_int HF.out.symm, Below.refl _ _⟩
  · have hq1 : (q != 0) = true := by simpa using hq
    have HU2 := Lib.hid (HU.out (HK.out hq))
    clear HU HK
    by_cases hg : q < (u : Int)
    · rw [if_pos ⟨hq, hg⟩] at HF
      clear hq
      go_enter Tryz.func59, Tryz.ntmps59
      go_wp2_with fail
      refine HU2.out.mono ?_
      rintro e w2 ⟨rfl, b2⟩
      have B2 := Lib.hid b2
      clear b2
      go_wp2
      go_ret
      exact ⟨ret_int HF.out.symm, B2.out⟩
    · rw [if_neg (fun h => hg h.2)] at HF
      have hg2 : decide (q < (u : Int)) = false := by simpa using hg
      clear hq
      go_enter Tryz.func59, Tryz.ntmps59
      go_wp2_with fail
      refine HU2.out.mono ?_
      rintro e w2 ⟨rfl, b2⟩
      have B2 := Lib.hid b2
      clear b2
      go_wp2
      go_ret
      exact ⟨ret_int HF.out.symm, B2.out⟩

theorem eg_quota1 : ∀ args w, (callFunc 59 args).run Tryz.prog w = .ok (.enter 59 args) w := enters_of Tryz.func59 (by kernel_rfl) rfl
set_option maxRecDepth 100000 in
set_option maxHeartbeats 400000 in
theorem quotaCheck_any (a : Option Addr) (c : Nat) (t : Tr) (w : World) (hd : Head t) (hp3 : Pass t 3) (h : Nods w w.heap.size a c t) :
    Calls Tryz.prog 26 #[.agg #[.slice a t.length c]] w (CheckPost t 3 w) := by
  have H := Lib.hid h
  have HP := Lib.hid hp3
  have HD := Lib.hid hd
  clear h hp3 hd
  go_enter Tryz.func26, Tryz.ntmps26
  go_wp2
  go_ret
  refine ⟨_, _, rfl, (Below.refl _ _).alloc (Nat.le_refl _) _, eg_quota1, fun W hW n hn => ?_⟩
  have hb : Below w.heap.size w W := ((Below.refl _ _).alloc (Nat.le_refl _) _).trans (hW.mono (by simp))
  exact quotaCheck1_any a c t n w.heap.size W HD.out HP.out (H.out.up hb) ((One.new w _ _).below hW (by simp)) hn

/-! ## The four checks by number -/
def fnK (k : Nat) : FuncId := match k with
  | 0 => 23
  | 1 => 24
  | 2 => 25
  | _ => 26
theorem check_any (k : Nat) (a : Option Addr) (c : Nat) (t : Tr) (w : World) (hd : Head t) (hp : Pass t k) (hk : k < 4) (h : Nods w w.heap.size a c t) : Calls Tryz.prog (fnK k) #[.agg #[.slice a t.length c]] w (CheckPost t k w) := by
  match k, hk with
  | 0, _ => exact fieldCheck_any a c t w h
  | 1, _ => exact referenceCheck_any a c t w (Pass.ok1 hd hp) h
  | 2, _ => exact pathCheck_any a c t w (Pass.ok2 hd hp) h
  | 3, _ => exact quotaCheck_any a c t w hd hp h
theorem eg_fnK (k : Nat) (hk : k < 4) : ∀ args w, (callFunc (fnK k) args).run Tryz.prog w = .ok (.enter (fnK k) args) w := by
  match k, hk with
  | 0, _ => exact enters_of Tryz.func23 (by kernel_rfl) rfl
  | 1, _ => exact enters_of Tryz.func24 (by kernel_rfl) rfl
  | 2, _ => exact enters_of Tryz.func25 (by kernel_rfl) rfl
  | 3, _ => exact enters_of Tryz.func26 (by kernel_rfl) rfl

end Go.Proofs.YtmgamdjinhlgoaaGreatDoor
