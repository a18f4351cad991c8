/- After any list of requests no directory exceeds its quota and the tree is valid: the law MemfsQuotaInvariant.
   Condition: as each theorem states; this text: FsRow, FsRoutes, FsRefUse, MfLawQuota, MfArg3, MfQuotaProof. -/
import Derived.Test.YtacabfhkinfpbaaGreatDoorMb7
import Derived.Laws.AppendOwn
import Derived.Laws.AppendOwnNone
import Derived.OwnWalk
import Derived.Test.YtacabfhkinfpbaaGreatDoorMb8
import Derived.Test.YtacabfhkinfpbaaGreatDoorMb10
import Derived.Test.YtacabfhkinfpbaaGreatDoorMb34
import Derived.Test.YtacabfhkinfpbaaGreatDoorMb32
import Derived.Test.YtacabfhkinfpbaaGreatDoorCards
import Derived.Test.YtacabfhkinfpbaaGreatDoorTie
import Derived.ProofKit
import Derived.SizedLaws
import Derived.OpenShut
import Derived.ShutString
import Derived.ChangeMaps5
import Derived.Deep.DeepHandedRow
import Derived.Lay
import Derived.LaidMore
import Derived.SevenTiedAt

set_option linter.all false

/- Rows of routes: visits as path, depth and inode; the path of a visit in bytes; an append to such a row. Conditions: as each theorem states. -/
namespace Go.Proofs.YtacabfhkinfpbaaGreatDoor
open Go.RowKit

/-! ## Paths in bytes -/
def flatP (xs : List ByteArray) : List UInt8 := xs.flatMap fun x => 47 :: x.data.toList
theorem flatP_snoc (xs : List ByteArray) (x : ByteArray) : flatP (xs ++ [x]) = flatP xs ++ 47 :: x.data.toList := by
  unfold flatP; rw [List.flatMap_append]; simp
theorem pstr_snoc (xs : List ByteArray) (x : ByteArray) : pstr (xs ++ [x]) = flatP xs ++ 47 :: x.data.toList := by
  unfold pstr; rw [if_neg (by simp)]; exact flatP_snoc xs x
theorem pstr_flat {xs : List ByteArray} (h : xs ≠ []) : pstr xs = flatP xs := by unfold pstr; rw [if_neg h]; rfl
def bP (xs : List ByteArray) : ByteArray := ⟨(pstr xs).toArray⟩
theorem bP_snoc (xs : List ByteArray) (x : ByteArray) : (⟨(flatP xs).toArray⟩ ++ ⟨#[47]⟩ ++ x : ByteArray) = bP (xs ++ [x]) := by
  unfold bP
  rw [pstr_snoc]
  apply ByteArray.ext
  simp
theorem bP_nil : bP [] = ⟨#[47]⟩ := rfl
theorem bP_ne {xs : List ByteArray} (h : xs ≠ []) (hv : ∀ x ∈ xs, vname x = true) : bP xs ≠ ⟨#[47]⟩ := by
  intro e
  have h1 := congrArg (fun b : ByteArray => b.data.toList) e
  simp only [bP] at h1
  rw [pstr_flat h] at h1
  cases xs with
  | nil => exact h rfl
  | cons x r =>
    have hx := (vname_size (hv x (by simp))).1
    have h2 := congrArg List.length h1
    have h3 : x.data.toList.length = x.size := by simp
    simp only [flatP, List.flatMap_cons, List.length_append, List.length_cons, List.length_nil] at h2
    simp at h2
    omega
theorem bP_size {xs : List ByteArray} (hv : ∀ x ∈ xs, vname x = true) : (bP xs).size ≤ 13 * xs.length + 1 := by
  have h1 := flat_len xs hv
  have e : (bP xs).size = (pstr xs).length := by unfold bP; simp [ByteArray.size]
  rw [e]
  unfold pstr
  split
  · simp
  · omega
theorem flatP_size {xs : List ByteArray} (hv : ∀ x ∈ xs, vname x = true) : (flatP xs).length ≤ 13 * xs.length := flat_len xs hv

/-! ## Visits as cells -/
abbrev V0 : Vis := ([], 0)
def cellsV (p : Vis) : List Value := [.string (bP p.1), .int .i64 (p.1.length : Nat), .int .i64 (p.2 : Nat)]
def flatV (L : List Vis) : List Value := L.flatMap cellsV
theorem flatV_cons (p : Vis) (L : List Vis) : flatV (p :: L) = .string (bP p.1) :: .int .i64 (p.1.length : Nat) :: .int .i64 (p.2 : Nat) :: flatV L := by
  unfold flatV cellsV; rw [List.flatMap_cons]; rfl
theorem flatV_append (L M : List Vis) : flatV (L ++ M) = flatV L ++ flatV M := by unfold flatV; rw [List.flatMap_append]
theorem flatV_len : ∀ L : List Vis, (flatV L).length = L.length * 3
  | [] => rfl
  | p :: L => by rw [flatV_cons]; simp only [List.length_cons]; rw [flatV_len L]; omega
theorem flatV_one : ∀ (L : List Vis), ∀ u ∈ flatV L, u.oneCell' = true
  | [], u, h => by simp [flatV] at h
  | p :: L, u, h => by
    rw [flatV_cons] at h
    rcases List.mem_cons.1 h with rfl | h
    · rfl
    · rcases List.mem_cons.1 h with rfl | h
      · rfl
      · rcases List.mem_cons.1 h with rfl | h
        · rfl
        · exact flatV_one L u h
theorem flatV_get : ∀ (L : List Vis) (j : Nat), j < L.length →
    (flatV L)[j * 3]? = some (.string (bP (L.getD j V0).1)) ∧ (flatV L)[j * 3 + 1]? = some (.int .i64 ((L.getD j V0).1.length : Nat)) ∧ (flatV L)[j * 3 + 2]? = some (.int .i64 ((L.getD j V0).2 : Nat))
  | [], j, h => absurd h (by simp)
  | p :: L, 0, _ => by rw [flatV_cons]; simp
  | p :: L, j + 1, h => by
    have ih := flatV_get L j (by simpa using h)
    have e1 : (j + 1) * 3 = j * 3 + 1 + 1 + 1 := by omega
    rw [flatV_cons, e1]
    simpa using ih
theorem visD {L : List Vis} {k : Nat} (h : k < L.length) : L.getD k V0 = L[k] := by
  rw [List.getD_eq_getElem?_getD, List.getElem?_eq_getElem h]; rfl
/-- The slice value v reads as these visits, all of it below block B. -/
def Vs (w : World) (B : Nat) (v : Value) (L : List Vis) : Prop :=
  ∃ b c, v = .slice (some ⟨b, 0, none⟩) L.length c ∧ L.length ≤ c ∧ 0 < L.length ∧ b < B ∧ ∀ j, j < L.length →
      w.cell? ⟨b, j * 3, none⟩ = some (.string (bP (L.getD j V0).1)) ∧ w.cell? ⟨b, j * 3 + 1, none⟩ = some (.int .i64 ((L.getD j V0).1.length : Nat)) ∧ w.cell? ⟨b, j * 3 + 2, none⟩ = some (.int .i64 ((L.getD j V0).2 : Nat))
theorem Vs.below {w w' : World} {B : Nat} {v : Value} {L : List Vis} (h : Vs w B v L) (hb : Below B w w') : Vs w' B v L := by
  obtain ⟨b, c, hv, hc, h0, hB, hj⟩ := h
  refine ⟨b, c, hv, hc, h0, hB, fun j hl => ?_⟩
  rw [hb.cell (p := ⟨b, _, none⟩) hB, hb.cell (p := ⟨b, _, none⟩) hB, hb.cell (p := ⟨b, _, none⟩) hB]
  exact hj j hl
theorem Vs.more {w : World} {B B' : Nat} {v : Value} {L : List Vis} (h : Vs w B v L) (hB : B ≤ B') : Vs w B' v L := by
  obtain ⟨b, c, hv, hc, h0, hb, hj⟩ := h
  exact ⟨b, c, hv, hc, h0, by omega, hj⟩
theorem Vs.up {w w' : World} {v : Value} {L : List Vis} (h : Vs w w.heap.size v L) (hb : Below w.heap.size w w') : Vs w' w'.heap.size v L := (h.below hb).more hb.size
theorem vs_own {w : World} {base n : Nat} {v : Value} {L : List Vis} (h : w.ownsRow base 99 3 v n (flatV L)) (h0 : 0 < L.length) : Vs w w.heap.size v L := by
  have hn : n = L.length := by have := h.1; rw [flatV_len] at this; omega
  subst hn
  rcases h.2 with ⟨hv, hz⟩ | ⟨g, cap, cur, hv, _, hg, hnc, _, _, _⟩
  · omega
  · have hlt : g < w.heap.size := (Array.getElem?_eq_some_iff.1 hg).1
    rw [hv] at h
    refine ⟨g, cap, hv, hnc, h0, hlt, fun j hj => ?_⟩
    obtain ⟨h1, h2, h3⟩ := flatV_get L j hj
    rw [← h.cellAt (j * 3) (by omega)] at h1
    rw [← h.cellAt (j * 3 + 1) (by omega)] at h2
    rw [← h.cellAt (j * 3 + 2) (by omega)] at h3
    exact ⟨h1, h2, h3⟩
theorem vs_new (w : World) (p : Vis) : (w.alloc (.cells #[.string (bP p.1), .int .i64 (p.1.length : Nat), .int .i64 (p.2 : Nat)] 99)).ownsRow w.heap.size 99 3 (.slice (some ⟨w.heap.size, 0, none⟩) 1 1) 1 (flatV [p]) :=
  ⟨rfl, .inr ⟨_, 1, _, rfl, Nat.le_refl _, heap_alloc_new w _, by omega, by simp [maxLen], rfl, rfl⟩⟩

theorem rt_info : (Tryz.prog.info? 99).map (fun i => (i.zero, i.size, i.bytes)) = some (some (.agg #[.string ByteArray.empty, .int .i64 0, .int .i64 0]), 3, 32) := by kernel_rfl

set_option maxRecDepth 100000 in
/-- append(row, x): row a row of the call's own, x one route in a block of its own; where the new row lies. -/
theorem wpList_append_rt {w : World} {ops : Array Oper} {rest : List Oper} {o : Oper} {a : Act} {Q : Exit → Act → World → Prop} (hgd : o.guard = none) (s x : Operand)
    (ho : o.op = .call { callee := .builtin .append, args := #[s, x], argTypes := #[96, 96] })
    (base : Nat) (v : Value) (n : Nat) (L : List Vis) (hs : a.eval s = v) (hown : w.ownsRow base 99 3 v n (flatV L))
    (q : Nat) (p : Vis) (hx : a.eval x = .slice (some ⟨q, 0, none⟩) 1 1)
    (h0 : w.cell? ⟨q, 0, none⟩ = some (.string (bP p.1))) (h1 : w.cell? ⟨q, 1, none⟩ = some (.int .i64 (p.1.length : Nat))) (h2 : w.cell? ⟨q, 2, none⟩ = some (.int .i64 (p.2 : Nat)))
    (hn : n ≤ 100000) (hbase : base ≤ w.heap.size)
    (h : ∀ v' w', w'.ownsRow base 99 3 v' (n + 1) (flatV (L ++ [p])) → w.grownBy w' v.ownBlock → (v'.ownBlock = v.ownBlock ∨ v'.ownBlock = some w.heap.size) → wpList Tryz.prog ops Q rest (a.put o.dst v') w') : wpList Tryz.prog ops Q (o :: rest) a w := by
  obtain ⟨i0, hi, hz0, hz1, hz2⟩ := info_parts rt_info
  refine wpList_plain hgd fun K hK2 => ?_
  obtain ⟨v', w', hrun, g1, g2, _, g3⟩ := run_append_own_at (P := Tryz.prog) w base 96 o.type 99 i0 _ 3 32 Tryz.underlying96 hi hz0 hz1 hz2 rfl (by omega) v n (flatV L) hown ⟨q, 0, none⟩ 1 1 (flatV [p]) rfl (by
      intro j u hu
      have hjl : j < 3 := by
        have := (List.getElem?_eq_some_iff.1 hu).1
        simpa [flatV_len] using this
      have hadd : (⟨q, 0, none⟩ : Addr).add j = ⟨q, j, none⟩ := by unfold Addr.add; split <;> simp_all
      rw [hadd]
      match j, hjl with
      | 0, _ => simp [flatV, cellsV] at hu; subst hu; exact h0
      | 1, _ => simp [flatV, cellsV] at hu; subst hu; exact h1
      | 2, _ => simp [flatV, cellsV] at hu; subst hu; exact h2) (flatV_one _) (by unfold maxLen; omega) (by omega) hbase
  unfold Oper.wp
  simp [execOp, ho, resolve, invoke, builtin, hs, hx, hrun, Result.andThen]
  exact hK2 _ _ (h v' w' (by rw [flatV_append]; exact g1) g2 g3)

end Go.Proofs.YtacabfhkinfpbaaGreatDoor

/- The reference's Routes: the places below an inode in breadth-first order, as a row. Conditions: the tree's inodes are valid by themselves, all walks from the start end; its cells lie in memory as they read. -/
namespace Go.Proofs.YtacabfhkinfpbaaGreatDoor
open Go.RowKit

/-- The children of a visit, the first k of them. -/
def someNext (t : Tr) (p : Vis) (k : Nat) : List Vis := ((kids t p.2).take k).map fun e => (p.1 ++ [e.n], e.i.toNat)
theorem someNext_zero (t : Tr) (p : Vis) : someNext t p 0 = [] := by unfold someNext; simp
theorem someNext_succ {t : Tr} {p : Vis} {k : Nat} (h : k < (kids t p.2).length) : someNext t p (k + 1) = someNext t p k ++ [(p.1 ++ [((kids t p.2).getD k D0).n], ((kids t p.2).getD k D0).i.toNat)] := by
  unfold someNext
  rw [List.take_succ_eq_append_getElem h, deD h, List.map_append]
  rfl
theorem someNext_all (t : Tr) (p : Vis) : someNext t p (kids t p.2).length = next t p := by
  unfold someNext next; rw [List.take_length]
theorem someNext_len (t : Tr) (p : Vis) (k : Nat) : (someNext t p k).length ≤ k := by unfold someNext; simp; omega
/-- Block n holds a route. -/
structure RBox (w : World) (n : Nat) (p : Vis) : Prop where
  lt : n < w.heap.size
  c0 : w.cell? ⟨n, 0, none⟩ = some (.string (bP p.1))
  c1 : w.cell? ⟨n, 1, none⟩ = some (.int .i64 (p.1.length : Nat))
  c2 : w.cell? ⟨n, 2, none⟩ = some (.int .i64 (p.2 : Nat))
theorem RBox.of_block {w w' : World} {n : Nat} {p : Vis} (h : RBox w n p) (hs : w.heap.size ≤ w'.heap.size) (hb : w'.heap[n]? = w.heap[n]?) : RBox w' n p :=
  ⟨Nat.lt_of_lt_of_le h.lt hs, (World.cell?_of_block (a := ⟨n, 0, none⟩) hb).trans h.c0, (World.cell?_of_block (a := ⟨n, 1, none⟩) hb).trans h.c1, (World.cell?_of_block (a := ⟨n, 2, none⟩) hb).trans h.c2⟩
theorem RBox.new (w : World) (p : Vis) (ty : TypeId) : RBox (w.alloc (.cells #[.string (bP p.1), .int .i64 (p.1.length : Nat), .int .i64 (p.2 : Nat)] ty)) w.heap.size p :=
  ⟨by simp, by simp, by simp, by simp⟩
theorem RBox.alloc {w : World} {n : Nat} {p : Vis} (h : RBox w n p) (o : Obj) : RBox (w.alloc o) n p :=
  h.of_block (by simp) (heap_alloc_old w o h.lt)

/-- What holds while the row grows: the tree's box at block w.heap.size, the row above it. -/
structure RtInv (w wr : World) (a : Option Addr) (n c : Nat) (v : Value) (L : List Vis) : Prop where
  b : Below w.heap.size w wr
  tb : One wr w.heap.size (.slice a n c)
  own : wr.ownsRow (w.heap.size + 1) 99 3 v L.length (flatV L)
theorem RtInv.step {w wr z : World} {a : Option Addr} {n c : Nat} {v : Value} {L : List Vis} (h : RtInv w wr a n c v L) (hb : Below wr.heap.size wr z) : RtInv w z a n c v L :=
  ⟨h.b.trans (hb.mono h.b.size), h.tb.below hb h.tb.lt, own_below h.own hb⟩
theorem RtInv.grow {w wr z : World} {a : Option Addr} {n c : Nat} {v v' : Value} {L L' : List Vis} (h : RtInv w wr a n c v L) (ho : z.ownsRow (w.heap.size + 1) 99 3 v' L'.length (flatV L')) (hg : wr.grownBy z v.ownBlock) : RtInv w z a n c v' L' :=
  ⟨h.b.trans ((Kept.of_grown (S := fun _ => False) hg).below h.b.size (fun _ hk => hk.elim) (fun g hg2 => by have := own_low h.own g hg2; omega)), h.tb.grown hg (fun e => by have := own_low h.own _ e.symm; omega), ho⟩

theorem RtInv.put {w wr y z : World} {a : Option Addr} {n c : Nat} {v v' : Value} {L : List Vis} {p : Vis} (h : RtInv w wr a n c v L) (hb : Below wr.heap.size wr y) (ho : z.ownsRow (w.heap.size + 1) 99 3 v' (L.length + 1) (flatV (L ++ [p]))) (hg : y.grownBy z v.ownBlock) : RtInv w z a n c v' (L ++ [p]) :=
  (h.step hb).grow (by simpa using ho) hg
theorem RBox.put {wr y z : World} {nb : Nat} {v : Value} {p : Vis} (h : RBox wr nb p) (hb : Below wr.heap.size wr y) (hg : y.grownBy z v.ownBlock) (hn : ∀ q, v.ownBlock = some q → q ≠ nb) : RBox z nb p :=
  (h.of_block hb.size (hb.block nb h.lt)).of_block hg.size (hg.block nb (Nat.lt_of_lt_of_le h.lt hb.size) (fun e => hn nb e.symm rfl))
theorem vis_lt {L : List Vis} {i : Nat} (h : i < L.length) : L.getD i V0 ∈ L := by rw [visD h]; exact List.getElem_mem h

theorem toL47 : (⟨#[47]⟩ : ByteArray).toList = [47] := by decide +kernel
theorem base_cases {xs : List ByteArray} (hv : ∀ x ∈ xs, vname x = true) : ∃ Bs : ByteArray, Bs = ⟨(flatP xs).toArray⟩ ∧ (((bP xs).toList == [47]) = true ∧ Bs = ⟨#[]⟩ ∨ ((bP xs).toList == [47]) = false ∧ Bs = bP xs) := by
  by_cases h : xs = []
  · subst h
    exact ⟨⟨#[]⟩, rfl, .inl ⟨by rw [bP_nil, toL47]; rfl, rfl⟩⟩
  · exact ⟨bP xs, by unfold bP; rw [pstr_flat h], .inr ⟨by rw [← toL47, beq_str]; simpa using bP_ne h hv, rfl⟩⟩
theorem sz_arr (l : List UInt8) : (⟨l.toArray⟩ : ByteArray).size = l.length := by simp [ByteArray.size]

set_option maxRecDepth 100000 in
set_option maxHeartbeats 8000000 in
theorem routes_any (a : Option Addr) (c : Nat) (t : Tr) (s : Nat) (w : World) (h1 : Ok1 t) (fr : From t s) (h : Nods w w.heap.size a c t) :
    Calls Tryz.prog 50 #[.agg #[.slice a t.length c], .int .i64 (s : Int)] w fun e w' => ∃ v L, e = .returned v ∧ Vs w' w'.heap.size v L ∧ (visits t s).Perm L ∧ (∀ q, v.ownBlock = some q → w.heap.size < q) ∧ Below w.heap.size w w' := by
  have H := Lib.hid h
  have H1 := Lib.hid h1
  have FR := Lib.hid fr
  have hlen := len_visits h1 fr
  have h40 := h1.le
  have I0 := Lib.hid (show RtInv w ((w.alloc (.cells #[.slice a t.length c] 24)).alloc (.cells #[.string ⟨#[47]⟩, .int .i64 0, .int .i64 (s : Int)] 99)) a t.length c (.slice (some ⟨w.heap.size + 1, 0, none⟩) 1 1) [([], s)] from
    ⟨((Below.refl _ _).alloc (Nat.le_refl _) _).alloc (by first | omega | (simp; done) | (simp; omega)) _, (One.new w _ _).alloc _, by have := vs_new (w.alloc (.cells #[.slice a t.length c] 24)) ([], s); rw [bP_nil] at this; simpa using this⟩)
  clear h h1 fr
  go_enter Tryz.func50, Tryz.ntmps50
  go_wp2_with fail
  have HLEN := Lib.hid (fun L i (b : Bfs t s L i) => b.len FR.out.fin)
  generalize hM : (visits t s).length = M at *
  go_loopg [5, 6, 7, 8, 9, 10] M (fun gg s5 s6 _ _ _ _ wr => ∃ (L : List Vis) (i : Nat), i ≤ L.length ∧ 0 < L.length ∧ M - i ≤ gg ∧ s6 = .int .i64 i ∧ Aside (Bfs t s L i) ∧ Aside (RtInv w wr a t.length c s5 L))
  case atStart => exact ⟨[([], s)], 0, by omega, by simp, by omega, rfl, Bfs.start, I0.out⟩
  case round =>
    obtain ⟨L, i, hi, hL0, hg, rfl, BF, I⟩ := hrel
    clear I0
    obtain ⟨w2, rfl⟩ : ∃ w2 : World, w2 = wr := ⟨_, rfl⟩
    have hLM := HLEN.out L i BF.out
    have hbs := I.out.b.size
    have tc := I.out.tb.c0
    have tl := I.out.tb.lt
    obtain ⟨rb, rc, rfl, hrc, _, hrb, hcell⟩ := vs_own I.out.own hL0
    by_cases hlt : i < L.length
    · have hltz : (i : Int) < (L.length : Int) := by omega
      have hi0 : (0 : Int) ≤ (i : Int) := Int.natCast_nonneg _
      have hm9 : M - (i + 1) < M - i := by omega
      obtain ⟨r0, r1, r2⟩ := hcell i hlt
      have hrch := BF.out.rch _ (vis_lt hlt)
      obtain ⟨hm, _, hvn⟩ := H1.out.rch hrch FR.out.lt FR.out.used
      have hxl : (L.getD i V0).1.length ≤ 40 := Nat.le_trans (FR.out.fin _ _ hrch) h40
      have HB := Lib.hid (show Bfs t s (L ++ next t (L.getD i V0)) (i + 1) from by rw [visD hlt]; exact BF.out.step FR.out.fin hlt)
      have hfs := flatP_size hvn
      have hbz := bP_size hvn
      obtain ⟨Bs, hBs, hcase⟩ := base_cases hvn
      have hcs := Lib.hid hBs
      clear hcell hrch hBs hvn
      generalize hp : L.getD i V0 = p at *
      obtain ⟨xs, m⟩ := p
      simp only at r0 r1 r2 hm hxl hfs hbz hcs hcase
      have mlz : (m : Int) < (t.length : Int) := by omega
      have mz : (0 : Int) ≤ (m : Int) := Int.natCast_nonneg _
      obtain ⟨b, o, ve, vd, va, vx, rfl, hb, hc, hs⟩ := H.out.one hm
      obtain ⟨ea, ec, rfl, hec, hel, hef, hex⟩ := hs.es
      have g2w := hc.c2
      change w.cell? ⟨b, o + m * 8 + 2, none⟩ = some (.slice ea (kids t m).length ec) at g2w
      have g2 := (I.out.b.cell (p := ⟨b, o + m * 8 + 2, none⟩) hb).trans g2w
      change (kids t m).length ≤ ec at hec
      change (kids t m).length ≤ 35184372088832 at hel
      have hk16 := (H1.out.fine m).len
      change (kids t m).length ≤ 16 at hk16
      have HEX := Lib.hid (show 0 < (kids t m).length → ∃ b o, ea = some ⟨b, o, none⟩ ∧ b < w.heap.size ∧ ∀ j, j < (kids t m).length →
        w.cell? ⟨b, o + j * 2, none⟩ = some (.string ((kids t m).getD j D0).n) ∧ w.cell? ⟨b, o + j * 2 + 1, none⟩ = some (.int .i64 ((kids t m).getD j D0).i) from hex)
      have HKD := Lib.hid (fun k (hk : k < (kids t m).length) => H1.out.kid (show (kids t m).getD k D0 ∈ kids t m from by rw [deD hk]; exact List.getElem_mem hk))
      have HSN := Lib.hid (fun k (hk : k < (kids t m).length) => someNext_succ (t := t) (p := (xs, m)) hk)
      have HSL := Lib.hid (fun k => someNext_len t (xs, m) k)
      have HSA := Lib.hid (someNext_all t (xs, m))
      have HSZ := Lib.hid (someNext_zero t (xs, m))
      clear hc hs hef hex
      generalize hn : (kids t m).length = n at *
      have I1 := Lib.hid (I.out.step ((Below.refl w2.heap.size w2).alloc (Nat.le_refl _) (.cells #[.string (bP xs), .int .i64 (xs.length : Nat), .int .i64 (m : Nat)] 99)))
      have R1 := Lib.hid (RBox.new w2 (xs, m) 99)
      have B1 := Lib.hid ((Below.refl w2.heap.size w2).alloc (Nat.le_refl _) (.cells #[.string (bP xs), .int .i64 (xs.length : Nat), .int .i64 (m : Nat)] 99))
      have HI := Lib.hid (own_in I.out.own)
      rcases hcase with ⟨ht, rfl⟩ | ⟨ht, rfl⟩
      all_goals
        go_wp2_with fail
        clear tc tl g2 ht r0 r1 r2
        go_loopg [5, 9, 10] n (fun gg s5 s9 _ wq => ∃ k : Nat, k ≤ n ∧ n - k ≤ gg ∧ s9 = .int .i64 k ∧ Aside (RtInv w wq (some ⟨b, o, none⟩) t.length c s5 (L ++ someNext t (xs, m) k)) ∧ Aside (RBox wq w2.heap.size (xs, m)) ∧ Aside (∀ q, s5.ownBlock = some q → q ≠ w2.heap.size))
        case atStart => exact ⟨0, by omega, by omega, rfl, by rw [HSZ.out, List.append_nil]; exact I1.out, R1.out, (show ∀ q, _ → _ from fun q hq => by have := HI.out q hq; omega)⟩
        case round =>
          obtain ⟨k, hk, hg2, rfl, IQ, RQ, NQ⟩ := hrel
          clear I1 R1 B1
          have hsl := HSL.out k
          have hbq := IQ.out.b.size
          have tc := IQ.out.tb.c0
          have tl := IQ.out.tb.lt
          have z0 := RQ.out.c0
          have z1 := RQ.out.c1
          have z2 := RQ.out.c2
          have zl := RQ.out.lt
          simp only at z0 z1 z2
          have g2 := (IQ.out.b.cell (p := ⟨b, o + m * 8 + 2, none⟩) hb).trans g2w
          have HIQ := Lib.hid (own_in IQ.out.own)
          by_cases hlk : k < n
          · have hlkz : (k : Int) < (n : Int) := by omega
            have hk0 : (0 : Int) ≤ (k : Int) := Int.natCast_nonneg _
            have hm8 : n - (k + 1) < n - k := by omega
            obtain ⟨be, oe, rfl, hbe, hje⟩ := HEX.out (by omega)
            have g0 := (IQ.out.b.cell (p := ⟨be, oe + k * 2, none⟩) hbe).trans (hje k hlk).1
            have g1 := (IQ.out.b.cell (p := ⟨be, oe + k * 2 + 1, none⟩) hbe).trans (hje k hlk).2
            have HS := Lib.hid (HSN.out k hlk)
            obtain ⟨q1, q2, q3, _, _⟩ := HKD.out k hlk
            clear hje
            generalize hy : (kids t m).getD k D0 = e at *
            obtain ⟨x, ei⟩ := e
            simp only at g0 g1 q1 q2 q3
            obtain ⟨n2, rfl⟩ := Int.eq_ofNat_of_zero_le (Int.le_of_lt q2)
            simp only [Int.toNat_natCast] at q3
            have hxs := (vname_size q1).2
            clear hy q1 q2
            simp only [Int.toNat_natCast] at HS
            have HL := Lib.hid (show L ++ someNext t (xs, m) (k + 1) = (L ++ someNext t (xs, m) k) ++ [(xs ++ [x], n2)] from by rw [HS.out, List.append_assoc])
            have hll : (L ++ someNext t (xs, m) k).length ≤ 700 := by rw [List.length_append]; omega
            have hl0 : 0 < (L ++ someNext t (xs, m) k).length := by rw [List.length_append]; omega
            generalize L ++ someNext t (xs, m) k = Lk at *
            obtain ⟨qb, qc, rfl, hqc, _, hqb, _⟩ := vs_own IQ.out.own hl0
            have hs1 : (bP xs).size + 1 ≤ 9223372036854775807 := by omega
            have hs2 : (bP xs).size + 1 + x.size ≤ 9223372036854775807 := by omega
            go_wp2_with (at_builtin; refine wpList_append_rt rfl (.tmp 50) (.tmp 62) rfl (w.heap.size + 1) _ _ Lk rfl (own_below IQ.out.own (((Below.refl wr.heap.size wr).alloc (Nat.le_refl _) _).alloc (by first | omega | (simp; done) | (simp; omega)) _)) (wr.heap.size + 1) (xs ++ [x], n2) rfl (by show _ = some (Value.string (bP (xs ++ [x]))); rw [← bP_snoc, ← hcs.out]; simp) (by simp) (by simp) (by omega) (by simp; omega) ?_; intro v3 w3 hown3 hg3 hq3)
            have IP := Lib.hid (RtInv.put IQ.out (hg := hg3) (ho := hown3) (hb := by exact (((Below.refl wr.heap.size wr).alloc (Nat.le_refl _) _).alloc (by first | omega | (simp; done) | (simp; omega)) _)))
            have RP := Lib.hid (RBox.put RQ.out (hg := hg3) (hn := NQ.out) (hb := by exact (((Below.refl wr.heap.size wr).alloc (Nat.le_refl _) _).alloc (by first | omega | (simp; done) | (simp; omega)) _)))
            have NP := Lib.hid (show ∀ q, v3.ownBlock = some q → q ≠ w2.heap.size from fun q hq => by
              rcases hq3 with h9 | h9
              · exact NQ.out q (h9.symm.trans hq)
              · rw [h9] at hq; injection hq with hq; simp at hq; omega)
            clear hown3 hg3 hq3
            go_roundg (n - (k + 1))
            case measure => omega
            case rel => exact ⟨k + 1, by omega, by omega, by go_num, by rw [HL.out]; exact IP.out, RP.out, NP.out⟩
          · have hkn : k = n := by omega
            have HE := Lib.hid (show Bfs t s (L ++ someNext t (xs, m) k) (i + 1) from by rw [hkn, HSA.out]; exact HB.out)
            have hll : i + 1 ≤ (L ++ someNext t (xs, m) k).length := by rw [List.length_append]; omega
            have hl0 : 0 < (L ++ someNext t (xs, m) k).length := by rw [List.length_append]; omega
            clear hkn
            go_wp2_with fail
            go_roundg (M - (i + 1))
            case measure => omega
            case rel => exact ⟨_, i + 1, hll, hl0, by omega, by go_num, HE.out, IQ.out⟩
    · obtain rfl : i = L.length := by omega
      have HP := Lib.hid BF.out.done
      have HV := Lib.hid (vs_own I.out.own hL0)
      have HO := Lib.hid (own_low I.out.own)
      go_wp2
      go_ret
      exact ⟨_, _, rfl, HV.out, HP.out, fun q hq => by have := HO.out q hq; omega, I.out.b⟩

end Go.Proofs.YtacabfhkinfpbaaGreatDoor

/- The reference's Usage. Conditions: the tree's inodes are valid by themselves, all walks from the inode end; the tree's cells lie in memory as they read. -/
namespace Go.Proofs.YtacabfhkinfpbaaGreatDoor
open Go.RowKit

theorem hasL_take {L : List Vis} {j i : Nat} (h : j < L.length) : hasL (L.take (j + 1)) i = (hasL (L.take j) i || decide ((L.getD j V0).2 = i)) := by
  rw [List.take_succ_eq_append_getElem h, hasL_snoc, visD h]
theorem farL_take {L : List Vis} {j i : Nat} (h : j < L.length) : farL (L.take (j + 1)) i = (farL (L.take j) i || (decide ((L.getD j V0).2 = i) && tooFar (L.getD j V0).1)) := by
  rw [List.take_succ_eq_append_getElem h, farL_snoc, visD h]
theorem usg_take {t : Tr} {L : List Vis} {j : Nat} (h : j < L.length) (hp : (L.getD j V0).2 < t.length) : usg t (L.take (j + 1)) = if hasL (L.take j) (L.getD j V0).2 = true then usg t (L.take j) else usg t (L.take j) + (nod t (L.getD j V0).2).dl := by
  rw [List.take_succ_eq_append_getElem h, ← visD h, usg_snoc hp]
theorem Vs.far {w : World} {B : Nat} {v : Value} {L : List Vis} (h : Vs w B v L) {p : Addr} (hp : ∀ q, v.ownBlock = some q → q ≠ p.block) (u : Value) : Vs (w.setCell p u) B v L := by
  obtain ⟨b, c, rfl, hc, h0, hB, hj⟩ := h
  have hb := hp b rfl
  have k : ∀ o, (w.setCell p u).cell? ⟨b, o, none⟩ = w.cell? ⟨b, o, none⟩ := fun o => World.cell?_setCell_other w p _ u (fun e => hb (by rw [e]))
  refine ⟨b, c, rfl, hc, h0, hB, fun j hl => ?_⟩
  rw [k, k, k]
  exact hj j hl

theorem Vs.cell {w : World} {B rb n rc : Nat} {L : List Vis} (h : Vs w B (.slice (some ⟨rb, 0, none⟩) n rc) L) {j : Nat} (hj : j < L.length) : rb < B ∧ w.cell? ⟨rb, j * 3, none⟩ = some (.string (bP (L.getD j V0).1)) ∧ w.cell? ⟨rb, j * 3 + 1, none⟩ = some (.int .i64 ((L.getD j V0).1.length : Nat)) ∧ w.cell? ⟨rb, j * 3 + 2, none⟩ = some (.int .i64 ((L.getD j V0).2 : Nat)) := by
  obtain ⟨b, c, hve, _, _, hB, hx⟩ := h
  injection hve with hve _ _
  injection hve with hve
  injection hve with e1 _ _
  subst e1
  exact ⟨hB, hx j hj⟩
/-- What holds while the sizes are added. -/
structure UR (w wr : World) (a : Option Addr) (c : Nat) (t : Tr) (v : Value) (L : List Vis) (B j : Nat) : Prop where
  b : Below w.heap.size w wr
  tb : One wr w.heap.size (.slice a t.length c)
  row : Row wr (w.heap.size + 1) t.length (fun i => .bool (hasL (L.take j) i))
  vs : Vs wr B v L
theorem UR.step {w wr z : World} {a : Option Addr} {c : Nat} {t : Tr} {v : Value} {L : List Vis} {B j : Nat} (h : UR w wr a c t v L B j) (hb : Below wr.heap.size wr z) (hB : B ≤ wr.heap.size) : UR w z a c t v L B j :=
  ⟨h.b.trans (hb.mono h.b.size), h.tb.below hb h.tb.lt, h.row.below hb h.row.lt, h.vs.below (hb.mono hB)⟩
theorem UR.mark {w wr : World} {a : Option Addr} {c : Nat} {t : Tr} {v : Value} {L : List Vis} {B j m : Nat} (h : UR w wr a c t v L B j) (hv : ∀ q, v.ownBlock = some q → w.heap.size + 1 < q) (hj : j < L.length) (hm : (L.getD j V0).2 = m) (hmt : m < t.length) : UR w (wr.setCell ⟨w.heap.size + 1, m, none⟩ (.bool true)) a c t v L B (j + 1) :=
  ⟨h.b.setCell (by simp) _, h.tb.far (by simp) _, (h.row.put hmt _).ext (fun i _ => by
    rw [hasL_take hj, hm]
    by_cases e : i = m
    · subst e; simp
    · rw [if_neg e, decide_eq_false (fun h => e h.symm), Bool.or_false]), h.vs.far (fun q hq => by have := hv q hq; simp; omega) _⟩

set_option maxRecDepth 100000 in
set_option maxHeartbeats 3200000 in
theorem refUsage_any (a : Option Addr) (c : Nat) (t : Tr) (n : Nat) (w : World) (h1 : Ok1 t) (fr : From t n) (h : Nods w w.heap.size a c t) :
    Calls Tryz.prog 25 #[.agg #[.slice a t.length c], .int .i64 (n : Int)] w fun e w' => e = .returned (.int .i64 (usg t (visits t n) : Nat)) ∧ Below w.heap.size w w' := by
  have hn := fr.lt
  have hk := fr.used
  have H := Lib.hid h
  have H1 := Lib.hid h1
  have FR := Lib.hid fr
  have hmk := make_bools t.length h1.le
  have nlz : (n : Int) < (t.length : Int) := by omega
  have nz : (0 : Int) ≤ (n : Int) := Int.natCast_nonneg _
  obtain ⟨b, o, ve, vd, va, vx, rfl, hb, hc, hs⟩ := h.one hn
  have c0 := hc.c0
  have hkb : ((nod t n).k == 0) = false := by simpa using hk
  generalize (nod t n).k = gk at *
  have BB := Lib.hid (show Below w.heap.size w ((w.alloc (.cells #[.slice (some ⟨b, o, none⟩) t.length c] 24)).alloc (.cells (madeCells #[.bool false] t.length) 4)) from
    ((Below.refl _ _).alloc (Nat.le_refl _) _).alloc (by first | omega | (simp; done) | (simp; omega)) _)
  have TT := Lib.hid (show One ((w.alloc (.cells #[.slice (some ⟨b, o, none⟩) t.length c] 24)).alloc (.cells (madeCells #[.bool false] t.length) 4)) w.heap.size (.slice (some ⟨b, o, none⟩) t.length c) from (One.new w _ _).alloc _)
  have RR := Lib.hid (show Row ((w.alloc (.cells #[.slice (some ⟨b, o, none⟩) t.length c] 24)).alloc (.cells (madeCells #[.bool false] t.length) 4)) (w.heap.size + 1) t.length (fun _ => .bool false) from (row_new (w.alloc _) t.length (.bool false) _).at_ (by simp))
  have HQ := Lib.hid (routes_any (some ⟨b, o, none⟩) c t n _ h1 fr (h.up BB.out))
  clear hc hs h h1 fr hk
  go_enter Tryz.func25, Tryz.ntmps25
  go_wp2_with fail
  refine HQ.out.mono ?_
  rintro e w2 ⟨v, L, rfl, hvs, hperm, hlow, b2⟩
  have P := Lib.hid hperm
  have HU := Lib.hid (usg_perm t hperm)
  have hl6 : L.length ≤ 641 := by rw [← hperm.length_eq]; exact len_visits H1.out FR.out
  have hv : ∀ q, v.ownBlock = some q → w.heap.size + 1 < q := fun q hq => by have := hlow q hq; simp at this; omega
  have HV := Lib.hid hv
  have X0 := Lib.hid (show UR w w2 (some ⟨b, o, none⟩) c t v L w2.heap.size 0 from ⟨BB.out.trans (b2.mono (by first | omega | (simp; done) | (simp; omega))), TT.out.below b2 TT.out.lt, (RR.out.below b2 RR.out.lt).ext (fun _ _ => by simp [hasL]), hvs⟩)
  obtain ⟨rb, rc, rfl, hrc, hL0, _, _⟩ := hvs
  have hw2 := b2.size
  clear hperm hlow b2 HQ TT RR BB hv c0 hmk
  go_wp2_with fail
  go_loopg [7, 8] L.length (fun gg s7 s8 wr => ∃ j : Nat, j ≤ L.length ∧ L.length - j ≤ gg ∧ s7 = .int .i64 (usg t (L.take j) : Nat) ∧ s8 = .int .i64 j ∧ w2.heap.size ≤ wr.heap.size ∧ Aside (UR w wr (some ⟨b, o, none⟩) c t (.slice (some ⟨rb, 0, none⟩) L.length rc) L w2.heap.size j))
  case atStart => exact ⟨0, by omega, by omega, by rw [List.take_zero, usg_nil]; rfl, rfl, Nat.le_refl _, X0.out⟩
  case round =>
    obtain ⟨j, hj, hg, rfl, rfl, hw2r, X⟩ := hrel
    clear X0
    by_cases hlt : j < L.length
    · have hltz : (j : Int) < (L.length : Int) := by omega
      have hj0 : (0 : Int) ≤ (j : Int) := Int.natCast_nonneg _
      have hm9 : L.length - (j + 1) < L.length - j := Nat.sub_lt_sub_left hlt (Nat.lt_succ_self j)
      have r2 := (X.out.vs.cell hlt).2.2.2
      have hmem : L.getD j V0 ∈ L := by rw [visD hlt]; exact List.getElem_mem hlt
      have hrch := (mem_visits FR.out.fin (ys := (L.getD j V0).1) (m := (L.getD j V0).2)).1 (P.out.mem_iff.2 hmem)
      have hml := (H1.out.rch hrch FR.out.lt FR.out.used).1
      have HT := Lib.hid (usg_take (t := t) hlt hml)
      have hdl := (H1.out.fine (L.getD j V0).2).dl
      have hul := usg_le H1.out (L.take j)
      clear hmem hrch
      generalize hm : (L.getD j V0).2 = m at *
      have HM := Lib.hid hm
      clear hm
      have mlz : (m : Int) < (t.length : Int) := by omega
      have mz : (0 : Int) ≤ (m : Int) := Int.natCast_nonneg _
      have rr := X.out.row.c m hml
      have rf := X.out.row.fz m
      have rl := X.out.row.lt
      have tc := X.out.tb.c0
      have tl := X.out.tb.lt
      obtain ⟨b', o', ve, vd, va, vx, hae, hb', hc, hs⟩ := (H.out.up X.out.b).one hml
      injection hae with hae
      injection hae with e1 e2 _
      subst e1 e2
      obtain ⟨da, dc, rfl, _⟩ := hs.dl
      have g3 := hc.c3
      clear hc hs
      have XX := Lib.hid (X.out.mark HV.out hlt HM.out hml)
      generalize hu : usg t (L.take j) = u at *
      generalize (nod t m).dl = d at *
      cases hx : hasL (L.take j) m with
      | true =>
        rw [hx] at rr
        have HT2 := Lib.hid (show usg t (L.take (j + 1)) = u by rw [HT.out, if_pos hx])
        clear hx HT
        go_wp2
        go_roundg (L.length - (j + 1))
        case measure => exact Nat.lt_of_lt_of_le hm9 hg
        case rel => exact ⟨j + 1, by omega, by omega, by rw [HT2.out], by go_num, by simpa using hw2r, XX.out⟩
      | false =>
        rw [hx] at rr
        have HT2 := Lib.hid (show usg t (L.take (j + 1)) = u + d by rw [HT.out, if_neg (by rw [hx]; simp)])
        clear hx HT
        have dz : (0 : Int) ≤ (d : Int) := Int.natCast_nonneg _
        have uz : (0 : Int) ≤ (u : Int) := Int.natCast_nonneg _
        have hwr : IntKind.i64.wrap ((u : Int) + (d : Int)) = (u : Int) + (d : Int) := IntWalk.i64_in _ (by omega)
        have XY := Lib.hid ((X.out.step (Below.refl wr.heap.size wr).drew hw2r).mark HV.out hlt HM.out hml)
        clear XX
        go_wp2_with fail
        go_region
        all_goals
          go_wp2_with fail
          go_roundg (L.length - (j + 1))
          case measure => exact Nat.lt_of_lt_of_le hm9 hg
          case rel => exact ⟨j + 1, by omega, by omega, by rw [HT2.out]; go_num, by go_num, by simpa using hw2r, XY.out⟩
    · obtain rfl : j = L.length := by omega
      have hul := usg_le H1.out L
      go_wp2
      go_ret
      exact ⟨ret_int (by rw [List.take_length, HU.out]), X.out.b⟩

end Go.Proofs.YtacabfhkinfpbaaGreatDoor

/- After any list of requests no directory exceeds its quota and the tree is valid: the law MemfsQuotaInvariant returns true. Conditions: the requests lie in memory as they read; the door's variable lies in memory. -/
namespace Go.Proofs.YtacabfhkinfpbaaGreatDoor
open Go.RowKit

/-- What holds while the directories are looked at. -/
structure QI (w wr : World) (n1 g cap : Nat) (t : Tr) : Prop where
  b : Below w.heap.size w wr
  k : Blk wr n1 [.slice (some ⟨g, 0, none⟩) t.length cap]
  n : Nods wr wr.heap.size (some ⟨g, 0, none⟩) cap t
theorem QI.step {w wr z : World} {n1 g cap : Nat} {t : Tr} (h : QI w wr n1 g cap t) (hb : Below wr.heap.size wr z) : QI w z n1 g cap t :=
  ⟨h.b.trans (hb.mono h.b.size), h.k.up hb, h.n.up hb⟩

set_option maxRecDepth 100000 in
set_option maxHeartbeats 6400000 in
theorem lawQuotaBad_any (a : Option Addr) (c : Nat) (l : List Rq) (w : World) (gm : GM w) (fc fi : Int) (hne : fc ≠ 0)
    (C : Calls Tryz.prog 18 #[.slice a l.length c] w fun e z => Below w.heap.size w z ∧ e = .returned (.tuple #[.agg #[.slice none 0 0], .slice none 0 0, .agg #[.int .i64 fc, .int .i64 fi]])) :
    Calls Tryz.prog 11 #[.slice a l.length c] w fun e w' => e = .returned (.bool true) ∧ Below w.heap.size w w' := by
  have CE := Lib.hid (fun W (hb : Below w.heap.size w W) => example_any W (gm.below hb))
  have hcc : (fc != 0) = true := by simpa using hne
  have CR := Lib.hid C
  clear gm hne C
  generalize l.length = n at *
  go_enter Tryz.func11, Tryz.ntmps11
  go_wp2_with fail
  refine CR.out.mono ?_
  rintro e z ⟨hbz, rfl⟩
  have BZ := Lib.hid hbz
  clear hbz
  have TN := Lib.hid (two_new z [.slice none 0 0] [.int .i64 fc, .int .i64 fi] 24 37)
  go_upto_region 2 with fail
  have B5 := Lib.hid (BZ.out.trans (TN.out.1.mono BZ.out.size))
  generalize (z.alloc (.cells #[.slice none 0 0] 24)).alloc (.cells #[.int .i64 fc, .int .i64 fi] 37) = w5 at *
  generalize z.heap.size + 1 = n2 at *
  generalize z.heap.size = n1 at *
  go_wp2_with fail
  refine (CE.out _ B5.out).mono ?_
  rintro e w6 ⟨rfl, b6⟩
  have B6 := Lib.hid (B5.out.trans (b6.mono B5.out.size))
  obtain ⟨_, TU, TF⟩ := TN.out
  have K3 := TF.up b6
  have f0 := K3.c 0 _ rfl
  have fl := K3.lt
  clear b6 TU TF K3 TN
  go_wp2
  all_goals
    go_ret
    exact ⟨rfl, B6.out⟩

set_option maxRecDepth 100000 in
set_option maxHeartbeats 6400000 in
theorem lawQuotaOk_any (a : Option Addr) (c : Nat) (l : List Rq) (t : Tr) (w : World) (gm : GM w) (hv : (valT t).1 = 0)
    (C : Calls Tryz.prog 18 #[.slice a l.length c] w fun e z => Below w.heap.size w z ∧ ∃ g cap R, e = .returned (.tuple #[.agg #[.slice (some ⟨g, 0, none⟩) t.length cap], .slice (some ⟨R, 0, none⟩) l.length l.length, .agg #[.int .i64 0, .int .i64 0]]) ∧ Nods z z.heap.size (some ⟨g, 0, none⟩) cap t) :
    Calls Tryz.prog 11 #[.slice a l.length c] w fun e w' => e = .returned (.bool true) ∧ Below w.heap.size w w' := by
  have CE := Lib.hid (fun W (hb : Below w.heap.size w W) => example_any W (gm.below hb))
  have CR := Lib.hid C
  have hvz := valT_zero hv
  obtain ⟨hd, p4⟩ := valT_ok hv
  have hle := hd.le
  have HD := Lib.hid hd
  have P4 := Lib.hid p4
  have P3 := Lib.hid (p4.mono (k := 4) (j := 3) (by omega))
  have O1 := Lib.hid (Pass.ok1 hd (p4.mono (by omega)))
  have CV := Lib.hid (fun W g cap (h : Nods W W.heap.size (some ⟨g, 0, none⟩) cap t) => validT_any (some ⟨g, 0, none⟩) cap t W h)
  unfold faultV at CV
  rw [hvz] at CV
  have hfd := fun W => field_code 0 0 W
  clear gm C hv hvz hd p4
  generalize l.length = m at *
  go_enter Tryz.func11, Tryz.ntmps11
  go_wp2_with fail
  refine CR.out.mono ?_
  rintro e z ⟨hbz, g, cap, R, rfl, hnd⟩
  have BZ := Lib.hid hbz
  have ND := Lib.hid hnd
  clear hbz hnd
  have TN := Lib.hid (two_new z [.slice (some ⟨g, 0, none⟩) t.length cap] [.int .i64 0, .int .i64 0] 24 37)
  go_upto_region 2 with fail
  have B5 := Lib.hid (BZ.out.trans (TN.out.1.mono BZ.out.size))
  have N5 := Lib.hid (ND.out.up TN.out.1)
  generalize (z.alloc (.cells #[.slice (some ⟨g, 0, none⟩) t.length cap] 24)).alloc (.cells #[.int .i64 0, .int .i64 0] 37) = w5 at *
  generalize z.heap.size + 1 = n2 at *
  generalize z.heap.size = n1 at *
  go_wp2_with fail
  refine (CE.out _ B5.out).mono ?_
  rintro e w6 ⟨rfl, b6⟩
  obtain ⟨_, TU, TF⟩ := TN.out
  have X0 := Lib.hid (show QI w w6 n1 g cap t from ⟨B5.out.trans (b6.mono B5.out.size), TU.up b6, N5.out.up b6⟩)
  have K3 := TF.up b6
  have f0 := K3.c 0 _ rfl
  have fl := K3.lt
  clear b6 TU TF K3 TN
  go_wp2_with fail
  clear f0 fl
  go_loopg [6] t.length (fun gg s6 wr => ∃ n : Nat, n ≤ t.length ∧ t.length - n ≤ gg ∧ s6 = .int .i64 n ∧ Aside (QI w wr n1 g cap t))
  case atStart => exact ⟨0, by omega, by omega, rfl, X0.out⟩
  case round =>
    clear X0
    obtain ⟨n, hn, hg, rfl, I⟩ := hrel
    obtain ⟨w2, rfl⟩ : ∃ w2 : World, w2 = wr := ⟨_, rfl⟩
    have tc := I.out.k.c 0 _ rfl
    have tl := I.out.k.lt
    by_cases hln : n < t.length
    · have hlnz : (n : Int) < (t.length : Int) := by omega
      have hn0 : (0 : Int) ≤ (n : Int) := Int.natCast_nonneg _
      have hm8 : t.length - (n + 1) < t.length - n := Nat.sub_lt_sub_left hln (Nat.lt_succ_self n)
      obtain ⟨b', o', ve, vd, va, vx, hae, hb, hc, hs⟩ := I.out.n.one hln
      injection hae with hae
      injection hae with e1 e2 _
      subst e1 e2
      have g6 := hc.c6
      rw [Nat.zero_add] at g6
      have HF := Lib.hid ((show codeK t 3 n = if (nod t n).q ≠ 0 ∧ (nod t n).q < (usg t (visits t n) : Int) then 14 else 0 from rfl).symm.trans (P4.out 3 (by omega) n hln))
      have hq0 := (O1.out.fine n).q0
      have D := Lib.hid (fun (hq : (nod t n).q ≠ 0) => fun W (hW : Below w2.heap.size w2 W) => refUsage_any (some ⟨g, 0, none⟩) cap t n W O1.out (Pass.from_ HD.out P3.out hln (fun hk => hq ((O1.out.fine n).dir (by rw [hk]; decide)).2)).1 (I.out.n.up hW))
      clear hc hs
      generalize usg t (visits t n) = u at *
      generalize (nod t n).q = q at *
      by_cases hq : 0 < q
      · have D2 := Lib.hid (D.out (by omega))
        clear D
        have K := Lib.hid (fun y (hy : Below w2.heap.size w2 y) => (show Below w2.heap.size w2 y ∧ y.cell? ⟨n1, 0, none⟩ = some (.slice (some ⟨g, 0, none⟩) t.length cap) ∧ y.cell? ⟨g, n * 8 + 6, none⟩ = some (.int .i64 q) from
          ⟨hy, (hy.cell (p := ⟨n1, 0, none⟩) tl).trans tc, (hy.cell (p := ⟨g, _, none⟩) hb).trans g6⟩))
        have hu2 : decide (q < (u : Int)) = false := by
          rw [decide_eq_false_iff_not]
          intro hu
          have := HF.out
          rw [if_pos ⟨by omega, hu⟩] at this
          cases this
        clear HF
        go_wp2_with fail
        go_region_held3 (fun y => Below w2.heap.size w2 y ∧ y.cell? ⟨n1, 0, none⟩ = some (.slice (some ⟨g, 0, none⟩) t.length cap) ∧ y.cell? ⟨g, n * 8 + 6, none⟩ = some (.int .i64 q))
          (first | exact K.out _ hR | exact K.out _ (Below.refl _ _).drew)
          ((go_at_call 25; have hs0 := And.left ‹Below w2.heap.size w2 _ ∧ _›; refine (D2.out _ hs0).mono ?_; rintro e y ⟨rfl, hb9⟩; have hR := hs0.trans (hb9.mono hs0.size)))
        all_goals
          have hz := And.left ‹Below w2.heap.size w2 _ ∧ _›
          have I8 := Lib.hid (I.out.step hz)
          go_wp2_with fail
          go_roundg (t.length - (n + 1))
          case measure => exact Nat.lt_of_lt_of_le hm8 hg
          case rel => exact ⟨n + 1, by omega, by omega, by go_num, I8.out⟩
      · obtain rfl : q = 0 := by omega
        have I8 := Lib.hid (I.out.step (Below.refl w2.heap.size w2).drew)
        clear HF D hq
        go_wp2_with fail
        go_region
        all_goals
          go_wp2_with fail
          go_roundg (t.length - (n + 1))
          case measure => exact Nat.lt_of_lt_of_le hm8 hg
          case rel => exact ⟨n + 1, by omega, by omega, by go_num, I8.out⟩
    · obtain rfl : n = t.length := by omega
      go_wp2_with fail
      refine (CV.out _ _ _ I.out.n).mono ?_
      rintro e w9 ⟨rfl, b9⟩
      have B9 := Lib.hid (I.out.b.trans (b9.mono I.out.b.size))
      clear b9
      go_wp2
      go_ret
      exact ⟨rfl, B9.out⟩

theorem lawQuota_any (a : Option Addr) (c : Nat) (l : List Rq) (w : World) (gm : GM w) (h : Rqs w w.heap.size a c l) :
    Calls Tryz.prog 11 #[.slice a l.length c] w fun e w' => e = .returned (.bool true) ∧ Below w.heap.size w w' := by
  have C := run_any a c l w gm h
  by_cases h1 : 60 < l.length
  · exact lawQuotaBad_any a c l w gm 2 (-1) (by decide) (C.mono fun e z ⟨hb, hp⟩ => ⟨hb, by rwa [if_pos h1] at hp⟩)
  · by_cases h2 : (rqsC l).1 = 0
    · refine lawQuotaOk_any a c l (tr (runF T0 l).1) w gm (run_valid l t0_valid) (C.mono fun e z ⟨hb, hp⟩ => ⟨hb, ?_⟩)
      rw [if_neg h1, if_neg (by simpa using h2)] at hp
      obtain ⟨g, cap, sl, R, he, ho, _⟩ := hp
      exact ⟨g, cap, R, by rw [tr_len]; exact he, ho.fnods.nods⟩
    · exact lawQuotaBad_any a c l w gm _ _ h2 (C.mono fun e z ⟨hb, hp⟩ => ⟨hb, by rwa [if_neg h1, if_pos h2] at hp⟩)

end Go.Proofs.YtacabfhkinfpbaaGreatDoor

/- What an argument of type []api.Request reads as: a list of requests. No condition: every such slice, nil too. -/
namespace Go.Proofs.YtacabfhkinfpbaaGreatDoor
open Go.ChangeShapes Go.WideShapes Go.ChangeAt Go.RowKit Go.Deep

instance : Inhabited Rq := ⟨R0⟩
theorem rq_bytes : Tryz.prog.bytesOf 30 = 144 := by kernel_rfl

section
variable {H : Type} {enc : TypeId × Value → H} {W : World}
set_option maxRecDepth 100000 in
/-- One slice value that reads as a list of requests. -/
theorem rqs_of {fuel : Nat} {a : Option Addr} {len cap : Nat} {x : DataW H × List MemPlace}
    (hf : DataW.trod enc Tryz.prog W 0 (fun _ => true) true fuel 45 [.slice a len cap] = some x) (hw : Held Tryz.prog 45 x.1) : ∃ l : List Rq, len = l.length ∧ Rqs W W.heap.size a cap l := by
  rcases open_slice Tryz.underlying45 hf with ⟨hcs, hx⟩ | ⟨ad, len', cap', m, n, D, Pl, hcs, _, hl, hm, hmm, hx, hi⟩
  · simp at hcs
    obtain ⟨rfl, rfl, rfl⟩ := hcs
    exact ⟨[], rfl, ⟨by simp, by simp, fun h => absurd h (by simp)⟩⟩
  · simp at hcs
    obtain ⟨rfl, rfl, rfl⟩ := hcs
    simp only [if_true] at hmm
    rw [hx] at hw
    have hr := hw.slice Tryz.underlying45
    rw [rq_bytes, reach_num] at hr
    simp only [List.length_map, List.length_range] at hr
    have key : ∀ i, i < len → ∃ r : Rq, ∃ vd va, (∃ cs', W.cells? 0 (ad.add (i * 10)) 10 = some cs' ∧ cs' = [.int .i64 r.k, .int .i64 r.u, .string r.p, .string r.t, .int .i64 r.off, .int .i64 r.sz, vd, va, .string r.a.n, .string r.a.v]) ∧ RqS W W.heap.size vd va r := by
      intro i hil
      obtain ⟨cs', hc, ht⟩ := hi i (by omega)
      rw [rq_cells10] at hc
      obtain ⟨vd, va, r, h1, h2⟩ := rq_of ht (hw.elem Tryz.underlying45 (List.mem_map.2 ⟨i, List.mem_range.2 hil, rfl⟩))
      exact ⟨r, vd, va, ⟨cs', hc, h1⟩, h2⟩
    obtain ⟨X, hX⟩ := choose_lt (α := Rq) (p := fun i r => ∃ vd va, (∃ cs', W.cells? 0 (ad.add (i * 10)) 10 = some cs' ∧ cs' = [.int .i64 r.k, .int .i64 r.u, .string r.p, .string r.t, .int .i64 r.off, .int .i64 r.sz, vd, va, .string r.a.n, .string r.a.v]) ∧ RqS W W.heap.size vd va r) key
    refine ⟨(List.range len).map X, by simp, ⟨by simp; omega, by simp; omega, fun hp0 => ?_⟩⟩
    have hp : 0 < len := by simpa using hp0
    clear hp0
    obtain ⟨b, off, spot⟩ := ad
    obtain ⟨_, _, ⟨cs', hc, rfl⟩, _⟩ := hX 0 hp
    obtain ⟨_, _, hat⟩ := World.cells?_some hc
    have hc0 := hat 0 (by omega)
    have hspot : spot = none := by simpa [Addr.add] using World.cell?_spot hc0
    subst hspot
    have hlt : b < W.heap.size := by have := cell_lt hc0; simpa [Addr.add] using this
    clear hc hat hc0
    refine ⟨b, off, rfl, hlt, fun j hj => ?_⟩
    have hj : j < len := by simpa using hj
    have hg : ((List.range len).map X).getD j R0 = X j := by
      rw [List.getD_eq_getElem?_getD, List.getElem?_eq_getElem (by simpa using hj)]; simp
    rw [hg]
    obtain ⟨vd, va, ⟨cs', hc, rfl⟩, hS⟩ := hX j hj
    obtain ⟨_, _, hat⟩ := World.cells?_some hc
    refine ⟨vd, va, ?_, hS⟩
    have h0 := hat 0 (by omega)
    have h1 := hat 1 (by omega)
    have h2 := hat 2 (by omega)
    have h3 := hat 3 (by omega)
    have h4 := hat 4 (by omega)
    have h5 := hat 5 (by omega)
    have h6 := hat 6 (by omega)
    have h7 := hat 7 (by omega)
    have h8 := hat 8 (by omega)
    have h9 := hat 9 (by omega)
    rw [Go.Deep.add_add, add_plain] at h0 h1 h2 h3 h4 h5 h6 h7 h8 h9
    exact ⟨h0, h1, h2, h3, h4, h5, h6, h7, h8, h9⟩
end

end Go.Proofs.YtacabfhkinfpbaaGreatDoor

/- MemfsQuotaInvariant: for every list of requests the law returns true: after the list no directory exceeds its quota and the tree is valid; the argument is left as it was.
   Condition: the listed variables of package unicode/utf8 hold what the program's text lays (the card ties them); no other condition on the arguments. -/
namespace Go.Proofs.YtacabfhkinfpbaaGreatDoor.rowMemfsQuotaInvariant
open Go.ChangeShapes Go.WideShapes Go.ChangeAt Go.ChangeMaps Go.RowKit

theorem own : ownKnob Tryz.prog.godebug = none := by kernel_rfl
theorem laidOut : laidOutB Tryz.prog = true := by kernel_rfl
theorem gm_of {W : World} (h : W.ShapedOpen Tryz.prog) : GM W := by
  obtain ⟨m, hm⟩ := Tryz.laysM146.s1_3 W h
  exact ⟨cell_lt hm, m, hm⟩

noncomputable def w0 (os : Os) : World := World.laidAll Tryz.prog os Rows.memfsQuotaInvariantRow.laid
theorem laid_met (os : Os) : laidMetH Tryz.prog Rows.memfsQuotaInvariantRow.laid ((w0 os).forCall (fun _ _ => 0) ⟨#[], #[.slice none 0 0], []⟩).memory := by
  rw [MakeChecks.laidMetH_plain _ _ _ (by kernel_rfl)]; exact laidMet_laidAll _ (by kernel_rfl) (by kernel_rfl)
theorem reads (os : Os) {H : Type} (enc : TypeId × Value → H) : ∃ places, DataW.whole enc Tryz.prog ((w0 os).forCall (fun _ _ => 0) ⟨#[], #[.slice none 0 0], []⟩).memory Tryz.f11.params.toList Rows.memfsQuotaInvariantSpec.vars false (#[.slice none 0 0] : Array Value).toList 8 = some ([.nil], [], places) :=
  ⟨[], by kernel_rfl⟩
theorem okin (os : Os) : Input.okWideB Tryz.prog ((w0 os).forCall (fun _ _ => 0) ⟨#[], #[.slice none 0 0], []⟩) 11 ⟨#[], #[.slice none 0 0], []⟩ = true := by kernel_rfl

set_option maxRecDepth 100000 in
theorem lifted (os : Os) (started : os.Started) (H : Type) (enc : TypeId × Value → H) (F : Stop.Interp) :
    ReturnsInHanded {} Tryz.checked os 11 .any ((OpenSpec.ofChange Rows.memfsQuotaInvariantSpec).preRow enc Tryz.prog Tryz.f11 Rows.memfsQuotaInvariantRow.domain false Rows.memfsQuotaInvariantRow.laid) (((OpenSpec.ofChange Rows.memfsQuotaInvariantSpec).at F).post enc Tryz.prog Tryz.f11 false true false false) := by
  obtain ⟨places, hx⟩ := reads os enc
  refine returnsInHanded_of_row (C := Tryz.checked) (s := OpenSpec.ofChange Rows.memfsQuotaInvariantSpec) own started (by kernel_rfl) Tryz.func11
    ⟨w0 os, fun _ _ => 0, ⟨#[], #[.slice none 0 0], []⟩, World.laidAll_os _ _ _, World.shaped_of_ZipB (by kernel_rfl) (by kernel_rfl),
      (Input.okWide_of_okWideB (base := 0) (okin os)).1, (Input.okWide_of_okWideB (okin os)).2,
      OpenSpec.preRow_of_cond 8 hx (by kernel_rfl) (fun k hk => by cases hk) (by kernel_rfl) (laid_met os), by
        simp only [Assume.holds]
        exact ⟨by simp, by simp, by simp, by simp, by simp⟩⟩ ?_
  intro W base args ds gs before hval0 hW _ _ hsz0 _ hsh _
  have hsz : (DataW.weightsEach Tryz.prog (Tryz.f11.params.toList ++ (OpenSpec.ofChange Rows.memfsQuotaInvariantSpec).bare.plain.varTypes Tryz.prog) (ds ++ gs)).all (· ≤ reachBytes) = true := hsz0
  clear hsz0
  have hval : ∀ (j : Nat) t v, Tryz.f11.params[j]? = some t → args[j]? = some v → Value.okWide Tryz.prog W .any base t v := hval0
  have gm := gm_of hsh
  have hW' := hW
  obtain ⟨p, q, hA0, hV, rfl, _, _⟩ := hW
  have hA : DataW.TrodAll enc Tryz.prog W 0 (fun _ => true) true Tryz.f11.params.toList args.toList ds p := hA0
  rw [Tryz.params11] at hA hval hsz
  clear hA0 hval0
  obtain ⟨v0, t0, d0, e0, p0, q0, ar0, rfl, rfl, h0, r0⟩ := trodAll_cons hA
  obtain ⟨rfl, rfl, rfl⟩ := trodAll_nil r0
  obtain rfl : args = #[v0] := by cases args; simp_all
  clear ar0
  obtain ⟨rfl, rfl⟩ := trodVars_none hV
  obtain ⟨a0, l0, c0, rfl⟩ := okWide_slice Tryz.underlying45 (hval 0 45 v0 rfl rfl)
  have k0 := h0
  obtain ⟨fuel0, f0⟩ := h0
  have hw0 : Held Tryz.prog 45 d0 := fun n hn => by
    have := List.all_eq_true.1 hsz _ (DataW.weights_mem_each (j := 0) (t := 45) rfl rfl n hn)
    simpa using this
  obtain ⟨u0, rfl, hS0⟩ := rqs_of f0 hw0
  try simp only [List.append_nil] at hW'
  have hlt : ∀ x ∈ p0 ++ ([]), x.block < W.heap.size := fun x hx => hW'.lt x (by first | exact hx | simpa using hx)
  refine (lawQuota_any a0 c0 u0 W gm hS0).mono fun e W' ⟨he, hnx⟩ => ?_
  subst he
  exact ⟨_, rfl, _, _, _, [] ++ [], p0 ++ ([]), [], hW', trodAll_mk1 (shut_bool Tryz.underlying4 true), trodAll_cons_mk (Below.trod laidOut (by kernel_rfl) (of_decide_eq_true (by kernel_rfl)) k0 hnx (fun x hx => hlt x (by simp [hx]))) (trodAll_mk0), rfl, hnx.frame _, fun h => by cases h⟩

theorem said : Rows.MemfsQuotaInvariantSaid :=
  OpenClaim.holds_of_cond 11 Tryz.f11 rfl rfl rfl rfl rfl rfl rfl ⟨rfl, rfl, rfl, rfl, rfl⟩ rfl rfl rfl rfl rfl (by kernel_rfl) Tryz.func11 (by kernel_rfl)
    (of_decide_eq_true (by kernel_rfl)) (by unfold Func.isWrapper; first | (rw [if_pos (by decide +kernel)]; kernel_rfl) | (rw [if_neg (by decide +kernel)]; exact ⟨rfl, rfl⟩))
    (fun os started H enc _ F => by rw [OpenClaim.pre_eq_preRow]; exact lifted os started H enc F)

theorem plain (f : FuncId) (fn : Func) (hf : Tryz.pinned.checked.prog.funcNamed "farshelf/farshelflaw3.MemfsQuotaInvariant" = some f) (hfn : Tryz.pinned.checked.prog.funcs[f]? = some fn) :
    false = Tryz.pinned.checked.prog.looks [] ∧ ∀ (j : Nat) t, fn.params[j]? = some t → Tryz.pinned.checked.prog.wantsStandIn t = false := by
  obtain rfl : f = 11 := Option.some.inj ((show Tryz.prog.funcNamed "farshelf/farshelflaw3.MemfsQuotaInvariant" = some 11 by kernel_rfl).symm.trans hf) |>.symm
  obtain rfl : fn = Tryz.f11 := (Option.some.inj (Tryz.func11.symm.trans hfn)).symm
  refine ⟨by kernel_rfl, fun j t ht => ?_⟩
  rw [Tryz.params11] at ht
  obtain rfl : t = 45 := by simpa using Array.mem_of_getElem? ht
  exact (show Tryz.prog.wantsStandIn 45 = false by kernel_rfl)

theorem card : Rows.MemfsQuotaInvariantCardSaid :=
  Claim7.holds_tied_plain_at .later [] _ _ _ _ said (fun _ h => by cases h) (by kernel_rfl) (fun _ h => by cases h) memfsQuotaInvariant_row_tie rfl ⟨rfl, rfl⟩ (by kernel_rfl) rfl plain (by kernel_rfl)
end Go.Proofs.YtacabfhkinfpbaaGreatDoor.rowMemfsQuotaInvariant
