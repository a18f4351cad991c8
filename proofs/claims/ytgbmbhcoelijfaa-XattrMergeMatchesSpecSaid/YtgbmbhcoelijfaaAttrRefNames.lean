/- The reference's AttrNames at every three lists: the names in ascending order, each once. Conditions: the slices' cells lie in memory as they read; together no more attributes than three arguments hold. -/
import Derived.Test.YtgbmbhcoelijfaaAttrNames
import Derived.Deep.RegionHeld3
import Derived.Deep.AppendLies
import Derived.Deep.DeepAppendWide
namespace Go.Proofs.Ytgbmbhcoelijfaa
open Go.RowKit

theorem own_le {w : World} {base base' n size : Nat} {e : TypeId} {v : Value} {xs : List Value} (h : w.ownsRow base e size v n xs) (hb : base' ≤ base) : w.ownsRow base' e size v n xs := by
  refine ⟨h.1, ?_⟩
  rcases h.2 with h0 | ⟨g, cap, cur, h1, h2, h3⟩
  · exact .inl h0
  · exact .inr ⟨g, cap, cur, h1, by omega, h3⟩
theorem own_strs {w : World} {base n : Nat} {v : Value} {xs : List ByteArray} (h : w.ownsRow base 9 1 v n (xs.map Value.string)) (hf : ∀ x ∈ xs, x.size ≤ maxLen) (hl : xs.length ≤ 35184372088832) : Strs w w.heap.size v xs := by
  have e : xs.map Value.string = (xs.map (·.data.toList)).map encStr := by
    rw [List.map_map]; exact List.map_congr_left fun x _ => str_enc x
  rw [e] at h
  have := strs_own h (fun l hl2 => by
    obtain ⟨x, hx, rfl⟩ := List.mem_map.1 hl2
    have e2 : x.data.toList.length = x.size := by simp
    rw [e2]; exact hf x hx) (by simpa using hl)
  rw [List.map_map] at this
  have e3 : xs.map ((fun l : List UInt8 => (⟨l.toArray⟩ : ByteArray)) ∘ (·.data.toList)) = xs := by
    conv => rhs; rw [← List.map_id xs]
    exact List.map_congr_left fun x _ => bytes_ext (by simp)
  rwa [e3] at this
theorem own_empty (w : World) (base n : Nat) (t : TypeId) (hb : base ≤ w.heap.size) (hn : n = w.heap.size) : (w.alloc (.cells #[] t)).ownsRow base t 1 (.slice (some ⟨n, 0, none⟩) 0 0) 0 [] := by
  subst hn
  exact ⟨rfl, .inr ⟨_, 0, #[], rfl, hb, heap_alloc_new w _, Nat.le_refl _, Nat.zero_le _, rfl, rfl⟩⟩
/-- An append of a list of strings to an owned row, as a step of a region that draws its order. -/
theorem step_append_strs {w : World} {ops : Array Oper} {o : Oper} {a : Act} {K : Act → World → Prop} {Q : Exit → Act → World → Prop} {E : Prop} (hgd : o.guard = none) (s x : Operand)
    (ho : o.op = .call { callee := .builtin .append, args := #[s, x], argTypes := #[41, 41] })
    (base : Nat) (v : Value) (n : Nat) (xs : List Value) (hs : a.eval s = v) (hown : w.ownsRow base 9 1 v n xs)
    (B : Nat) (u : Value) (ys : List ByteArray) (hx : a.eval x = u) (hA : Strs w B u ys)
    (hn : n + ys.length ≤ 13194139532928) (hbase : base ≤ w.heap.size)
    (hK : ∀ v' w', w'.ownsRow base 9 1 v' (n + ys.length) (xs ++ ys.map Value.string) → w.grownBy w' v.ownBlock → K (a.put o.dst v') w') :
    if Region.wanted o (yielded ops a.tmps) = true then Oper.wp Try.prog o a w K Q else E := by
  have hw : Region.wanted o (yielded ops a.tmps) = true := by simp [Region.wanted, hgd]
  rw [if_pos hw]
  obtain ⟨i, hi, hz0, hz1, hz2⟩ := info_parts strg_info
  obtain ⟨ad, c, rfl, hc, hl, hf, hcell⟩ := hA
  have h1 : ∀ y ∈ ys.map Value.string, y.oneCell' = true := fun z hz => by
    obtain ⟨x, _, rfl⟩ := List.mem_map.1 hz; rfl
  have key : ∀ g : Addr, ad = some g → (∀ j u, (ys.map Value.string)[j]? = some u → w.cell? (g.add j) = some u) → Oper.wp Try.prog o a w K Q := fun g hg hcl => by
    subst hg
    obtain ⟨v', w', hrun, r1, r2, _⟩ := run_append_own_wide (P := Try.prog) w base 41 o.type 9 i _ 1 16 Try.underlying41 hi hz0 hz1 hz2 rfl (by decide) v n xs hown g ys.length c (ys.map Value.string) (by simp) hcl h1 (by unfold maxLen; omega) (by omega) hbase
    unfold Oper.wp
    simp [execOp, ho, resolve, invoke, builtin, hs, hx, hrun, Result.andThen]
    exact hK v' w' r1 r2
  by_cases h0 : ys.length = 0
  · have he : ys = [] := List.eq_nil_of_length_eq_zero h0
    subst he
    cases ad with
    | none =>
      have hrun : (Builtin.append_ #[41, 41] o.type #[v, .slice none 0 c]).run Try.prog w = .ok v w := by
        rcases hown.2 with ⟨rfl, _⟩ | ⟨g, cap, cur, rfl, _, _, hnc, _⟩
        · simp [Builtin.append_, run_underlying Try.underlying41, sizeOf, typeInfo, hi, Builtin.lenOf, Builtin.firstCells]
        · simp [Builtin.append_, run_underlying Try.underlying41, sizeOf, typeInfo, hi, Builtin.lenOf, Builtin.firstCells, hnc, storeCells]
      unfold Oper.wp
      simp [execOp, ho, resolve, invoke, builtin, hs, hx, hrun, Result.andThen]
      exact hK v w (by simpa using hown) (World.grownBy.refl _ _)
    | some g => exact key g rfl (by intro j u hu; simp at hu)
  · obtain ⟨b, of, rfl, hB, hj⟩ := hcell (by omega)
    refine key _ rfl fun j u hu => ?_
    have hjl : j < ys.length := by
      have := (List.getElem?_eq_some_iff.1 hu).1
      simpa using this
    have e : u = .string (ys.getD j ByteArray.empty) := by
      rw [List.getElem?_map, List.getElem?_eq_getElem hjl] at hu
      rw [strD hjl]
      exact (Option.some.inj hu).symm
    have hadd : (⟨b, of, none⟩ : Addr).add j = ⟨b, of + j, none⟩ := by unfold Addr.add; split <;> simp_all
    rw [e, hadd]
    exact hj j hjl
theorem Strs.empty (w : World) (B : Nat) (a : Option Addr) (c : Nat) : Strs w B (.slice a 0 c) [] :=
  ⟨a, c, rfl, by simp, by simp, by simp, fun h => absurd h (by simp)⟩
theorem Strs.cut {w : World} {B : Nat} {a : Option Addr} {n c : Nat} {xs : List ByteArray} (h : Strs w B (.slice a n c) xs) {k : Nat} (hk : k ≤ n) : Strs w B (.slice a k c) (xs.take k) := by
  obtain ⟨a', c', hv, hc, hl, hf, hx⟩ := h
  injection hv with h1 hn h2
  subst h1 h2 hn
  have hlen : (xs.take k).length = k := by simp; omega
  refine ⟨a, c, by rw [hlen], by omega, by omega, fun e he => hf e (List.mem_of_mem_take he), fun h0 => ?_⟩
  obtain ⟨b, o, ha, hB, hj⟩ := hx (by omega)
  refine ⟨b, o, ha, hB, fun j h => ?_⟩
  have e : (xs.take k).getD j ByteArray.empty = xs.getD j ByteArray.empty := by
    rw [List.getD_eq_getElem?_getD, List.getD_eq_getElem?_getD, List.getElem?_take_of_lt (by omega)]
  rw [e]; exact hj j (by omega)
theorem Strs.from_ {w : World} {B b o n c : Nat} {xs : List ByteArray} (h : Strs w B (.slice (some ⟨b, o, none⟩) n c) xs) {k : Nat} (hk : k ≤ n) : Strs w B (.slice (some ⟨b, o + k, none⟩) (n - k) (c - k)) (xs.drop k) := by
  obtain ⟨a', c', hv, hc, hl, hf, hx⟩ := h
  injection hv with h1 hn h2
  subst h1 h2 hn
  have hlen : (xs.drop k).length = xs.length - k := by simp
  refine ⟨_, c - k, by rw [hlen], by omega, by omega, fun e he => hf e (List.mem_of_mem_drop he), fun h0 => ?_⟩
  obtain ⟨b', o', ha, hB, hj⟩ := hx (by omega)
  injection ha with ha
  injection ha with ha1 ha2
  subst ha1 ha2
  refine ⟨b, _, rfl, hB, fun j h => ?_⟩
  have e : (xs.drop k).getD j ByteArray.empty = xs.getD (k + j) ByteArray.empty := by
    rw [List.getD_eq_getElem?_getD, List.getD_eq_getElem?_getD, List.getElem?_drop]
  rw [e]
  have := hj (k + j) (by omega)
  rw [show o + k + j = o + (k + j) by omega]; exact this

theorem ins_there {l : List ByteArray} {s : ByteArray} {k : Nat} (hk : k < l.length) (he : l.getD k ByteArray.empty = s) : insU l s = l := by
  unfold insU
  rw [if_pos]
  rw [hasU_iff, ← he, strD hk]
  exact List.getElem_mem hk
theorem ins_new {l : List ByteArray} (hl : Asc l) {s : ByteArray} {k : Nat} (hk : k ≤ l.length) (h1 : ∀ j, j < k → ltS (l.getD j ByteArray.empty) s = true) (h2 : k < l.length → ltS (l.getD k ByteArray.empty) s = false ∧ l.getD k ByteArray.empty ≠ s) : insU l s = l.take k ++ [s] ++ l.drop k := by
  have hp := posU_of hl hk h1 (fun h => (h2 h).1)
  unfold insU
  rw [hp, if_neg]
  rw [hasU_iff]
  intro hm
  obtain ⟨j, hj, e⟩ := List.mem_iff_getElem.1 hm
  rw [← strD hj] at e
  by_cases hjk : j < k
  · exact ltS_ne (h1 j hjk) e
  · obtain ⟨q1, q2⟩ := h2 (by omega)
    by_cases e2 : j = k
    · subst e2; exact q2 e
    · have h3 := List.pairwise_iff_getElem.1 hl k j (by omega) hj (by omega)
      rw [← strD, ← strD, e, q1] at h3
      cases h3
theorem Strs.drew {w : World} {B : Nat} {v : Value} {xs : List ByteArray} (h : Strs w B v xs) : Strs w.drew B v xs := h
theorem strs_cell {w : World} {B g : Nat} {y : ByteArray} (hc : w.cell? ⟨g, 0, none⟩ = some (.string y)) (hg : g < B) (hy : y.size ≤ maxLen) : Strs w B (.slice (some ⟨g, 0, none⟩) 1 1) [y] := by
  refine ⟨_, _, rfl, by simp, by simp, by simpa using hy, fun _ => ⟨_, _, rfl, hg, ?_⟩⟩
  intro j hj
  match j, hj with
  | 0, _ => simpa using hc
theorem cell_grown {w w' : World} {row : Option Nat} (hg : w.grownBy w' row) {n : Nat} {u : Value} (hc : w.cell? ⟨n, 0, none⟩ = some u) (hn : some n ≠ row) : w'.cell? ⟨n, 0, none⟩ = some u := by
  have hlt : n < w.heap.size := by
    rcases Nat.lt_or_ge n w.heap.size with hlt | hge
    · exact hlt
    · unfold World.cell? at hc; rw [Array.getElem?_eq_none hge] at hc; simp at hc
  exact (World.cell?_of_block (a := ⟨n, 0, none⟩) (hg.block n hlt hn)).trans hc
/-- What holds at the head of the outer loop after i attributes. -/
structure NInv (w wr : World) (acc : List ByteArray) (v : Value) : Prop where
  B : Below w.heap.size w wr
  own : wr.ownsRow w.heap.size 9 1 v acc.length (acc.map Value.string)

set_option maxRecDepth 100000 in
set_option maxHeartbeats 8000000 in
theorem refNames_any (v1 v2 v3 : Value) (A B C : List Attr) (w : World) (h1 : Ats w w.heap.size v1 A) (h2 : Ats w w.heap.size v2 B) (h3 : Ats w w.heap.size v3 C) (ht : (A ++ B ++ C).length ≤ 13194139532928) :
    Calls Try.prog 20 #[v1, v2, v3] w (NamesPost (A ++ B ++ C) w) := by
  have HA := Lib.hid h1
  have HB := Lib.hid h2
  have HC := Lib.hid h3
  obtain ⟨a1, c1, rfl, hc1⟩ := h1.form rfl
  obtain ⟨a2, c2, rfl, hc2⟩ := h2.form rfl
  obtain ⟨a3, c3, rfl, hc3⟩ := h3.form rfl
  clear h1 h2 h3
  have hL : (A ++ B ++ C).length = A.length + B.length + C.length := by simp; omega
  rw [hL] at ht
  have HL := Lib.hid hL
  have HF := Lib.hid (show ∀ e ∈ A ++ B ++ C, e.fits from fun e he => by
    rcases List.mem_append.1 he with he | he
    · rcases List.mem_append.1 he with he | he
      · exact HA.out.fits e he
      · exact HB.out.fits e he
    · exact HC.out.fits e he)
  have HACC := Lib.hid (fun i (hi : i ≤ (A ++ B ++ C).length) => accK_all (A ++ B ++ C) i hi)
  have HAF := Lib.hid (show ∀ i, i ≤ (A ++ B ++ C).length → ∀ x ∈ accK (A ++ B ++ C) i, x.size ≤ maxLen from fun i hi x hx => by
    obtain ⟨a, ha, rfl⟩ := ((HACC.out i hi).2.1 x).1 hx
    exact (HF.out a (List.mem_of_mem_take ha)).1)
  have HWAY := Lib.hid (show ∀ i, (i < A.length ∧ (A ++ B ++ C).getD i A0 = A.getD i A0) ∨ (¬ i < A.length ∧ i < A.length + B.length ∧ (A ++ B ++ C).getD i A0 = B.getD (i - A.length) A0) ∨ (¬ i < A.length ∧ ¬ i < A.length + B.length ∧ (A ++ B ++ C).getD i A0 = C.getD (i - A.length - B.length) A0) from fun i => by
      by_cases q1 : i < A.length
      · left
        refine ⟨q1, ?_⟩
        rw [List.getD_eq_getElem?_getD, List.getD_eq_getElem?_getD, List.append_assoc, List.getElem?_append_left q1]
      · right
        by_cases q2 : i < A.length + B.length
        · left
          refine ⟨q1, q2, ?_⟩
          rw [List.getD_eq_getElem?_getD, List.getD_eq_getElem?_getD, List.append_assoc, List.getElem?_append_right (by omega), List.getElem?_append_left (by omega)]
        · right
          refine ⟨q1, q2, ?_⟩
          rw [List.getD_eq_getElem?_getD, List.getD_eq_getElem?_getD, List.append_assoc, List.getElem?_append_right (by omega), List.getElem?_append_right (by omega)])
  clear hL
  generalize A ++ B ++ C = L at *
  go_enter Try.func20, Try.ntmps20
  go_wp2_with fail
  have IN := Lib.hid (show NInv w w (accK L 0) (.slice none 0 0) from ⟨Below.refl _ _, ⟨rfl, .inl ⟨rfl, rfl⟩⟩⟩)
  go_loopg [7, 8, 9, 10] (A.length + B.length + C.length) (fun gg s7 s8 _ _ wr => ∃ i : Nat, i ≤ A.length + B.length + C.length ∧ A.length + B.length + C.length - i ≤ gg ∧ s8 = .int .i64 i ∧ Aside (NInv w wr (accK L i) s7))
  case atStart => exact ⟨0, by omega, by omega, rfl, IN.out⟩
  case round =>
    obtain ⟨i, hi, hg, rfl, I⟩ := hrel
    clear IN
    by_cases hlt : i < A.length + B.length + C.length
    · have hltz : (i : Int) < (A.length : Int) + (B.length : Int) + (C.length : Int) := by omega
      have hi0 : (0 : Int) ≤ (i : Int) := Int.natCast_nonneg _
      have hiL : i < L.length := by rw [HL.out]; exact hlt
      have HSUC := Lib.hid (accK_succ hiL)
      have hnf : (L.getD i A0).n.size ≤ maxLen := (HF.out _ (atD_mem hiL)).1
      obtain ⟨asc, _, alen⟩ := HACC.out i (by omega)
      have ASC := Lib.hid asc
      have AF := Lib.hid (HAF.out i (by omega))
      have hway := HWAY.out i
      generalize L.getD i A0 = y at *
      generalize hacc1 : accK L (i + 1) = acc1 at *
      have HACC1 := Lib.hid hacc1
      clear hacc1
      generalize accK L i = acc at *
      clear asc hiL
      have hbw := I.out.B
      have SA0 := own_strs I.out.own AF.out (by omega)
      obtain ⟨a7, c7, hv7, hc7⟩ := SA0.form rfl
      subst hv7
      have SA := Lib.hid SA0
      clear SA0
      generalize hyn : y.n = nm at *
      rcases hway with ⟨q1, hy⟩ | ⟨q1, q2, hy⟩ | ⟨q1, q2, hy⟩
      · have qz : (i : Int) < (A.length : Int) := by omega
        obtain ⟨b, o, rfl, hb, hj⟩ := HA.out.spot (by omega)
        have g0 := (hbw.cell (p := ⟨b, o + i * 2, none⟩) hb).trans (hj i q1).1
        rw [← hy, hyn] at g0
        clear hj hy
        go_wp2_with fail
        clear g0
        go_loopg [10] acc.length (fun gg s10 w5 => ∃ k : Nat, k ≤ acc.length ∧ acc.length - k ≤ gg ∧ s10 = .int .i64 k ∧ wr = w5 ∧ Aside (∀ j, j < k → ltS (acc.getD j ByteArray.empty) nm = true))
        case atStart => exact ⟨0, by omega, by omega, rfl, rfl, fun j hj => absurd hj (Nat.not_lt_zero _)⟩
        case round =>
          obtain ⟨k, hk, hgk, rfl, hww, KA⟩ := hrel
          subst hww
          have hk0 : (0 : Int) ≤ (k : Int) := Int.natCast_nonneg _
          by_cases hkl : k < acc.length
          · have hklz : (k : Int) < (acc.length : Int) := by omega
            have hkne : ((k : Int) == (acc.length : Int)) = false := by simp; omega
            obtain ⟨b7, o7, rfl, hb7, hj7⟩ := SA.out.spot (by omega)
            have k0 := hj7 k hkl
            clear hj7
            generalize hz : acc.getD k ByteArray.empty = z at k0
            have Z := Lib.hid hz
            clear hz
            cases hlz : ltS z nm with
            | true =>
              have hb1 : Op.bytesLess z.toList nm.toList = true := hlz
              have KZ := Lib.hid hlz
              clear hlz
              go_wp2
              go_roundg (acc.length - (k + 1))
              case measure => omega
              case rel =>
                refine ⟨k + 1, by omega, by omega, by go_num, rfl, (show Aside _ from fun j hj => ?_)⟩
                by_cases e : j = k
                · subst e; rw [Z.out]; exact KZ.out
                · exact KA.out j (by omega)
            | false =>
              have hb1 : Op.bytesLess z.toList nm.toList = false := hlz
              by_cases hzn : z = nm
              · have hb2 : (z.toList == nm.toList) = true := by rw [beq_str]; simpa using hzn
                have HI := Lib.hid (ins_there (s := nm) hkl (by rw [Z.out]; exact hzn))
                clear hlz hzn
                go_wp2_with fail
                go_roundg (A.length + B.length + C.length - (i + 1))
                case measure => omega
                case rel => exact ⟨i + 1, by omega, by omega, by go_num, (show NInv _ _ _ _ from by rw [HACC1.out, HSUC.out, HI.out]; exact I.out)⟩
              · have hb2 : (z.toList == nm.toList) = false := by rw [beq_str]; simpa using hzn
                have HI := Lib.hid (ins_new (s := nm) ASC.out hk KA.out (fun _ => ⟨by rw [Z.out]; exact hlz, by rw [Z.out]; exact hzn⟩))
                clear hlz hzn
                have hck : ¬ c7 = k := by omega
                have hkc : (k : Int) ≤ (c7 : Int) := by omega
                have hkl2 : (k : Int) ≤ (acc.length : Int) := by omega
                have hlc2 : (acc.length : Int) ≤ (c7 : Int) := by omega
                go_wp2_with fail
                go_region_held3 (fun _ => True)
                  (trivial)
                  (first
                    | (refine step_append_strs (by rfl) (.tmp 84) (.tmp 87) (by rfl) wr.heap.size (.slice (some ⟨wr.heap.size, 0, none⟩) 0 0) 0 [] (by simp [Act.eval]) ((own_empty wr wr.heap.size _ 9 (Nat.le_refl _) rfl).drew) wr.heap.size (.slice (some ⟨b7, o7, none⟩) k c7) (acc.take k) (by simp [Act.eval]) ((SA.out.cut hk).alloc (Nat.le_refl _) _).drew (by simp; omega) (by first | omega | (simp; done) | (simp; omega)) ?_; intro x1 y1 hown1 hg1; have hB1 : Below wr.heap.size wr y1 := (((Below.refl _ _).alloc (Nat.le_refl _) _).drew).grown hg1 (by first | omega | (simp; done) | (simp; omega)) (fun g hg => by simp [Value.ownBlock] at hg; omega); have hs1 := hB1.size; have hq : y1.heap.size = y1.heap.size := rfl)
                    | (refine step_append_strs (by rfl) (.tmp 84) (.tmp 87) (by rfl) wr.heap.size (.slice (some ⟨wr.heap.size, 0, none⟩) 0 0) 0 [] (by simp [Act.eval]) (((own_empty wr wr.heap.size _ 9 (Nat.le_refl _) rfl).alloc _).drew) wr.heap.size (.slice (some ⟨b7, o7, none⟩) k c7) (acc.take k) (by simp [Act.eval]) (((SA.out.cut hk).alloc (Nat.le_refl _) _).alloc (by first | omega | (simp; done) | (simp; omega)) _).drew (by simp; omega) (by first | omega | (simp; done) | (simp; omega)) ?_; intro x1 y1 hown1 hg1; have hB1 : Below wr.heap.size wr y1 := ((((Below.refl _ _).alloc (Nat.le_refl _) _).alloc (by first | omega | (simp; done) | (simp; omega)) _).drew).grown hg1 (by first | omega | (simp; done) | (simp; omega)) (fun g hg => by simp [Value.ownBlock] at hg; omega); have hs1 := hB1.size; have hq : y1.cell? ⟨wr.heap.size + 1, 0, none⟩ = some (.string nm) := cell_grown hg1 (show World.cell? ((wr.alloc (.cells #[] 9)).alloc (.cells #[.string nm] 9)) ⟨wr.heap.size + 1, 0, none⟩ = _ from by simp) (by simp [Value.ownBlock]))
                    | (refine step_append_strs (by rfl) (.tmp 84) (.tmp 87) (by rfl) wr.heap.size (.slice (some ⟨wr.heap.size + 1, 0, none⟩) 0 0) 0 [] (by simp [Act.eval]) ((own_empty (wr.alloc (.cells #[.string nm] 9)) wr.heap.size _ 9 (by first | omega | (simp; done) | (simp; omega)) (by simp)).drew) wr.heap.size (.slice (some ⟨b7, o7, none⟩) k c7) (acc.take k) (by simp [Act.eval]) (((SA.out.cut hk).alloc (Nat.le_refl _) _).alloc (by first | omega | (simp; done) | (simp; omega)) _).drew (by simp; omega) (by first | omega | (simp; done) | (simp; omega)) ?_; intro x1 y1 hown1 hg1; have hB1 : Below wr.heap.size wr y1 := ((((Below.refl _ _).alloc (Nat.le_refl _) _).alloc (by first | omega | (simp; done) | (simp; omega)) _).drew).grown hg1 (by first | omega | (simp; done) | (simp; omega)) (fun g hg => by simp [Value.ownBlock] at hg; omega); have hs1 := hB1.size; have hq : y1.cell? ⟨wr.heap.size, 0, none⟩ = some (.string nm) := cell_grown hg1 (show World.cell? ((wr.alloc (.cells #[.string nm] 9)).alloc (.cells #[] 9)) ⟨wr.heap.size, 0, none⟩ = _ from by simp) (by simp [Value.ownBlock]))
                    | (refine step_append_strs (by rfl) (.tmp 88) (.tmp 90) (by rfl) wr.heap.size x1 _ _ (by simp [Act.eval]) (hown1.alloc _) _ (.slice (some ⟨y1.heap.size, 0, none⟩) 1 1) [nm] (by simp [Act.eval]) (strs_one y1 _ rfl nm hnf _) (by simp; omega) (by first | omega | (simp; done) | (simp; omega)) ?_; intro x2 y2 hown2 hg2; have hB2 : Below wr.heap.size wr y2 := (hB1.alloc hs1 _).grown hg2 (by first | omega | (simp; done) | (simp; omega)) (fun g hg => (hown1.lt g hg).1); have hs2 := hB2.size)
                    | (refine step_append_strs (by rfl) (.tmp 88) (.tmp 90) (by rfl) wr.heap.size x1 _ _ (by simp [Act.eval]) hown1 _ (.slice (some ⟨wr.heap.size + 1, 0, none⟩) 1 1) [nm] (by simp [Act.eval]) (strs_cell (B := wr.heap.size + 2) hq (by omega) hnf) (by simp; omega) (by first | omega | (simp; done) | (simp; omega)) ?_; intro x2 y2 hown2 hg2; have hB2 : Below wr.heap.size wr y2 := (hB1).grown hg2 (by first | omega | (simp; done) | (simp; omega)) (fun g hg => (hown1.lt g hg).1); have hs2 := hB2.size)
                    | (refine step_append_strs (by rfl) (.tmp 88) (.tmp 90) (by rfl) wr.heap.size x1 _ _ (by simp [Act.eval]) hown1 _ (.slice (some ⟨wr.heap.size, 0, none⟩) 1 1) [nm] (by simp [Act.eval]) (strs_cell (B := wr.heap.size + 2) hq (by omega) hnf) (by simp; omega) (by first | omega | (simp; done) | (simp; omega)) ?_; intro x2 y2 hown2 hg2; have hB2 : Below wr.heap.size wr y2 := (hB1).grown hg2 (by first | omega | (simp; done) | (simp; omega)) (fun g hg => (hown1.lt g hg).1); have hs2 := hB2.size)
                    | (refine step_append_strs (by rfl) (.tmp 91) (.tmp 94) (by rfl) wr.heap.size x2 _ _ (by simp [Act.eval]) hown2 wr.heap.size (.slice (some ⟨b7, o7 + k, none⟩) (acc.length - k) (c7 - k)) (acc.drop k) (by simp [Act.eval]) ((SA.out.from_ hk).below hB2) (by simp; omega) (by first | omega | (simp; done) | (simp; omega)) ?_; intro x3 y3 hown3 hg3)
                    | ((trace_state; fail)))
                all_goals
                  have hbs := I.out.B.size
                  have HO3 := Lib.hid (show y3.ownsRow w.heap.size 9 1 x3 (acc.take k ++ [nm] ++ acc.drop k).length ((acc.take k ++ [nm] ++ acc.drop k).map Value.string) from by
                    have h9 := own_le hown3 hbs
                    rw [List.nil_append, ← List.map_append, ← List.map_append, Nat.zero_add, ← List.length_append, ← List.length_append] at h9
                    exact h9)
                  have HB3 := Lib.hid (I.out.B.trans ((hB2.grown hg3 hs2 (fun g hg => (hown2.lt g hg).1)).mono hbs))
                  clear hown1 hown2 hown3 hg1 hg2 hg3 hB1 hB2
                  go_wp2
                  go_roundg (A.length + B.length + C.length - (i + 1))
                  case measure => omega
                  case rel => exact ⟨i + 1, by omega, by omega, by go_num, (show NInv _ _ _ _ from by rw [HACC1.out, HSUC.out, HI.out]; exact ⟨HB3.out, HO3.out⟩)⟩
          · obtain rfl : k = acc.length := by omega
            have HI := Lib.hid (ins_new (s := nm) ASC.out (Nat.le_refl _) KA.out (fun h => absurd h (Nat.lt_irrefl _)))
            rcases I.out.own.2 with ⟨h7, h70⟩ | ⟨g7, cap7, cur7, h7, _, _, _, _, _, _⟩
            · obtain rfl : acc = [] := List.eq_nil_of_length_eq_zero h70
              injection h7 with e1 _ e2
              subst e1 e2
              clear h70
              have HI : Hid (insU [] nm = [] ++ [nm] ++ []) := HI
              go_wp2_with fail
              go_region_held3 (fun _ => True)
                (trivial)
                (first
                  | (refine step_append_strs (by rfl) (.tmp 84) (.tmp 87) (by rfl) wr.heap.size (.slice (some ⟨wr.heap.size, 0, none⟩) 0 0) 0 [] (by simp [Act.eval]) ((own_empty wr wr.heap.size _ 9 (Nat.le_refl _) rfl).drew) wr.heap.size (.slice none 0 0) (([] : List ByteArray)) (by simp [Act.eval]) ((SA.out).alloc (Nat.le_refl _) _).drew (by first | omega | (simp; done) | (simp; omega)) (by first | omega | (simp; done) | (simp; omega)) ?_; intro x1 y1 hown1 hg1; have hB1 : Below wr.heap.size wr y1 := (((Below.refl _ _).alloc (Nat.le_refl _) _).drew).grown hg1 (by first | omega | (simp; done) | (simp; omega)) (fun g hg => by simp [Value.ownBlock] at hg; omega); have hs1 := hB1.size; have hq : y1.heap.size = y1.heap.size := rfl)
                  | (refine step_append_strs (by rfl) (.tmp 84) (.tmp 87) (by rfl) wr.heap.size (.slice (some ⟨wr.heap.size, 0, none⟩) 0 0) 0 [] (by simp [Act.eval]) (((own_empty wr wr.heap.size _ 9 (Nat.le_refl _) rfl).alloc _).drew) wr.heap.size (.slice none 0 0) (([] : List ByteArray)) (by simp [Act.eval]) (((SA.out).alloc (Nat.le_refl _) _).alloc (by first | omega | (simp; done) | (simp; omega)) _).drew (by first | omega | (simp; done) | (simp; omega)) (by first | omega | (simp; done) | (simp; omega)) ?_; intro x1 y1 hown1 hg1; have hB1 : Below wr.heap.size wr y1 := ((((Below.refl _ _).alloc (Nat.le_refl _) _).alloc (by first | omega | (simp; done) | (simp; omega)) _).drew).grown hg1 (by first | omega | (simp; done) | (simp; omega)) (fun g hg => by simp [Value.ownBlock] at hg; omega); have hs1 := hB1.size; have hq : y1.cell? ⟨wr.heap.size + 1, 0, none⟩ = some (.string nm) := cell_grown hg1 (show World.cell? ((wr.alloc (.cells #[] 9)).alloc (.cells #[.string nm] 9)) ⟨wr.heap.size + 1, 0, none⟩ = _ from by simp) (by simp [Value.ownBlock]))
                  | (refine step_append_strs (by rfl) (.tmp 84) (.tmp 87) (by rfl) wr.heap.size (.slice (some ⟨wr.heap.size + 1, 0, none⟩) 0 0) 0 [] (by simp [Act.eval]) ((own_empty (wr.alloc (.cells #[.string nm] 9)) wr.heap.size _ 9 (by first | omega | (simp; done) | (simp; omega)) (by simp)).drew) wr.heap.size (.slice none 0 0) (([] : List ByteArray)) (by simp [Act.eval]) (((SA.out).alloc (Nat.le_refl _) _).alloc (by first | omega | (simp; done) | (simp; omega)) _).drew (by first | omega | (simp; done) | (simp; omega)) (by first | omega | (simp; done) | (simp; omega)) ?_; intro x1 y1 hown1 hg1; have hB1 : Below wr.heap.size wr y1 := ((((Below.refl _ _).alloc (Nat.le_refl _) _).alloc (by first | omega | (simp; done) | (simp; omega)) _).drew).grown hg1 (by first | omega | (simp; done) | (simp; omega)) (fun g hg => by simp [Value.ownBlock] at hg; omega); have hs1 := hB1.size; have hq : y1.cell? ⟨wr.heap.size, 0, none⟩ = some (.string nm) := cell_grown hg1 (show World.cell? ((wr.alloc (.cells #[.string nm] 9)).alloc (.cells #[] 9)) ⟨wr.heap.size, 0, none⟩ = _ from by simp) (by simp [Value.ownBlock]))
                  | (refine step_append_strs (by rfl) (.tmp 88) (.tmp 90) (by rfl) wr.heap.size x1 _ _ (by simp [Act.eval]) (hown1.alloc _) _ (.slice (some ⟨y1.heap.size, 0, none⟩) 1 1) [nm] (by simp [Act.eval]) (strs_one y1 _ rfl nm hnf _) (by first | omega | (simp; done) | (simp; omega)) (by first | omega | (simp; done) | (simp; omega)) ?_; intro x2 y2 hown2 hg2; have hB2 : Below wr.heap.size wr y2 := (hB1.alloc hs1 _).grown hg2 (by first | omega | (simp; done) | (simp; omega)) (fun g hg => (hown1.lt g hg).1); have hs2 := hB2.size)
                  | (refine step_append_strs (by rfl) (.tmp 88) (.tmp 90) (by rfl) wr.heap.size x1 _ _ (by simp [Act.eval]) hown1 _ (.slice (some ⟨wr.heap.size + 1, 0, none⟩) 1 1) [nm] (by simp [Act.eval]) (strs_cell (B := wr.heap.size + 2) hq (by omega) hnf) (by first | omega | (simp; done) | (simp; omega)) (by first | omega | (simp; done) | (simp; omega)) ?_; intro x2 y2 hown2 hg2; have hB2 : Below wr.heap.size wr y2 := (hB1).grown hg2 (by first | omega | (simp; done) | (simp; omega)) (fun g hg => (hown1.lt g hg).1); have hs2 := hB2.size)
                  | (refine step_append_strs (by rfl) (.tmp 88) (.tmp 90) (by rfl) wr.heap.size x1 _ _ (by simp [Act.eval]) hown1 _ (.slice (some ⟨wr.heap.size, 0, none⟩) 1 1) [nm] (by simp [Act.eval]) (strs_cell (B := wr.heap.size + 2) hq (by omega) hnf) (by first | omega | (simp; done) | (simp; omega)) (by first | omega | (simp; done) | (simp; omega)) ?_; intro x2 y2 hown2 hg2; have hB2 : Below wr.heap.size wr y2 := (hB1).grown hg2 (by first | omega | (simp; done) | (simp; omega)) (fun g hg => (hown1.lt g hg).1); have hs2 := hB2.size)
                  | (refine step_append_strs (by rfl) (.tmp 91) (.tmp 94) (by rfl) wr.heap.size x2 _ _ (by simp [Act.eval]) hown2 wr.heap.size (.slice none 0 0) (([] : List ByteArray)) (by simp [Act.eval]) (Strs.empty _ _ _ _) (by first | omega | (simp; done) | (simp; omega)) (by first | omega | (simp; done) | (simp; omega)) ?_; intro x3 y3 hown3 hg3)
                  | ((trace_state; fail)))
              all_goals
                have hbs := I.out.B.size
                have HO3 := Lib.hid (show y3.ownsRow w.heap.size 9 1 x3 (([] : List ByteArray) ++ [nm] ++ ([] : List ByteArray)).length ((([] : List ByteArray) ++ [nm] ++ ([] : List ByteArray)).map Value.string) from by
                  have h9 := own_le hown3 hbs
                  rw [List.nil_append, ← List.map_append, ← List.map_append, Nat.zero_add, ← List.length_append, ← List.length_append] at h9
                  exact h9)
                have HB3 := Lib.hid (I.out.B.trans ((hB2.grown hg3 hs2 (fun g hg => (hown2.lt g hg).1)).mono hbs))
                clear hown1 hown2 hown3 hg1 hg2 hg3 hB1 hB2
                go_wp2
                go_roundg (A.length + B.length + C.length - (i + 1))
                case measure => omega
                case rel => exact ⟨i + 1, by omega, by omega, by go_num, (show NInv _ _ _ _ from by rw [HACC1.out, HSUC.out, HI.out]; exact ⟨HB3.out, HO3.out⟩)⟩
            · injection h7 with e1 _ e2
              subst e1 e2
              have hklz : decide ((acc.length : Int) < (acc.length : Int)) = false := by simp
              have hkne : ((acc.length : Int) == (acc.length : Int)) = true := by simp
              have hlc2 : (acc.length : Int) ≤ (c7 : Int) := by omega
              by_cases hck : c7 = acc.length
              · subst hck
                go_wp2_with fail
                go_region_held3 (fun _ => True)
                  (trivial)
                  (first
                    | (refine step_append_strs (by rfl) (.tmp 84) (.tmp 87) (by rfl) wr.heap.size (.slice (some ⟨wr.heap.size, 0, none⟩) 0 0) 0 [] (by simp [Act.eval]) ((own_empty wr wr.heap.size _ 9 (Nat.le_refl _) rfl).drew) wr.heap.size (.slice (some ⟨g7, 0, none⟩) acc.length acc.length) (acc.take acc.length) (by simp [Act.eval]) ((SA.out.cut (Nat.le_refl _)).alloc (Nat.le_refl _) _).drew (by simp; omega) (by first | omega | (simp; done) | (simp; omega)) ?_; intro x1 y1 hown1 hg1; have hB1 : Below wr.heap.size wr y1 := (((Below.refl _ _).alloc (Nat.le_refl _) _).drew).grown hg1 (by first | omega | (simp; done) | (simp; omega)) (fun g hg => by simp [Value.ownBlock] at hg; omega); have hs1 := hB1.size; have hq : y1.heap.size = y1.heap.size := rfl)
                    | (refine step_append_strs (by rfl) (.tmp 84) (.tmp 87) (by rfl) wr.heap.size (.slice (some ⟨wr.heap.size, 0, none⟩) 0 0) 0 [] (by simp [Act.eval]) (((own_empty wr wr.heap.size _ 9 (Nat.le_refl _) rfl).alloc _).drew) wr.heap.size (.slice (some ⟨g7, 0, none⟩) acc.length acc.length) (acc.take acc.length) (by simp [Act.eval]) (((SA.out.cut (Nat.le_refl _)).alloc (Nat.le_refl _) _).alloc (by first | omega | (simp; done) | (simp; omega)) _).drew (by simp; omega) (by first | omega | (simp; done) | (simp; omega)) ?_; intro x1 y1 hown1 hg1; have hB1 : Below wr.heap.size wr y1 := ((((Below.refl _ _).alloc (Nat.le_refl _) _).alloc (by first | omega | (simp; done) | (simp; omega)) _).drew).grown hg1 (by first | omega | (simp; done) | (simp; omega)) (fun g hg => by simp [Value.ownBlock] at hg; omega); have hs1 := hB1.size; have hq : y1.cell? ⟨wr.heap.size + 1, 0, none⟩ = some (.string nm) := cell_grown hg1 (show World.cell? ((wr.alloc (.cells #[] 9)).alloc (.cells #[.string nm] 9)) ⟨wr.heap.size + 1, 0, none⟩ = _ from by simp) (by simp [Value.ownBlock]))
                    | (refine step_append_strs (by rfl) (.tmp 84) (.tmp 87) (by rfl) wr.heap.size (.slice (some ⟨wr.heap.size + 1, 0, none⟩) 0 0) 0 [] (by simp [Act.eval]) ((own_empty (wr.alloc (.cells #[.string nm] 9)) wr.heap.size _ 9 (by first | omega | (simp; done) | (simp; omega)) (by simp)).drew) wr.heap.size (.slice (some ⟨g7, 0, none⟩) acc.length acc.length) (acc.take acc.length) (by simp [Act.eval]) (((SA.out.cut (Nat.le_refl _)).alloc (Nat.le_refl _) _).alloc (by first | omega | (simp; done) | (simp; omega)) _).drew (by simp; omega) (by first | omega | (simp; done) | (simp; omega)) ?_; intro x1 y1 hown1 hg1; have hB1 : Below wr.heap.size wr y1 := ((((Below.refl _ _).alloc (Nat.le_refl _) _).alloc (by first | omega | (simp; done) | (simp; omega)) _).drew).grown hg1 (by first | omega | (simp; done) | (simp; omega)) (fun g hg => by simp [Value.ownBlock] at hg; omega); have hs1 := hB1.size; have hq : y1.cell? ⟨wr.heap.size, 0, none⟩ = some (.string nm) := cell_grown hg1 (show World.cell? ((wr.alloc (.cells #[.string nm] 9)).alloc (.cells #[] 9)) ⟨wr.heap.size, 0, none⟩ = _ from by simp) (by simp [Value.ownBlock]))
                    | (refine step_append_strs (by rfl) (.tmp 88) (.tmp 90) (by rfl) wr.heap.size x1 _ _ (by simp [Act.eval]) (hown1.alloc _) _ (.slice (some ⟨y1.heap.size, 0, none⟩) 1 1) [nm] (by simp [Act.eval]) (strs_one y1 _ rfl nm hnf _) (by simp; omega) (by first | omega | (simp; done) | (simp; omega)) ?_; intro x2 y2 hown2 hg2; have hB2 : Below wr.heap.size wr y2 := (hB1.alloc hs1 _).grown hg2 (by first | omega | (simp; done) | (simp; omega)) (fun g hg => (hown1.lt g hg).1); have hs2 := hB2.size)
                    | (refine step_append_strs (by rfl) (.tmp 88) (.tmp 90) (by rfl) wr.heap.size x1 _ _ (by simp [Act.eval]) hown1 _ (.slice (some ⟨wr.heap.size + 1, 0, none⟩) 1 1) [nm] (by simp [Act.eval]) (strs_cell (B := wr.heap.size + 2) hq (by omega) hnf) (by simp; omega) (by first | omega | (simp; done) | (simp; omega)) ?_; intro x2 y2 hown2 hg2; have hB2 : Below wr.heap.size wr y2 := (hB1).grown hg2 (by first | omega | (simp; done) | (simp; omega)) (fun g hg => (hown1.lt g hg).1); have hs2 := hB2.size)
                    | (refine step_append_strs (by rfl) (.tmp 88) (.tmp 90) (by rfl) wr.heap.size x1 _ _ (by simp [Act.eval]) hown1 _ (.slice (some ⟨wr.heap.size, 0, none⟩) 1 1) [nm] (by simp [Act.eval]) (strs_cell (B := wr.heap.size + 2) hq (by omega) hnf) (by simp; omega) (by first | omega | (simp; done) | (simp; omega)) ?_; intro x2 y2 hown2 hg2; have hB2 : Below wr.heap.size wr y2 := (hB1).grown hg2 (by first | omega | (simp; done) | (simp; omega)) (fun g hg => (hown1.lt g hg).1); have hs2 := hB2.size)
                    | (refine step_append_strs (by rfl) (.tmp 91) (.tmp 94) (by rfl) wr.heap.size x2 _ _ (by simp [Act.eval]) hown2 wr.heap.size (.slice (some ⟨g7, 0, none⟩) 0 0) (acc.drop acc.length) (by simp [Act.eval]) (by rw [List.drop_length]; exact Strs.empty _ _ _ _) (by simp; omega) (by first | omega | (simp; done) | (simp; omega)) ?_; intro x3 y3 hown3 hg3)
                    | ((trace_state; fail)))
                all_goals
                  have hbs := I.out.B.size
                  have HO3 := Lib.hid (show y3.ownsRow w.heap.size 9 1 x3 (acc.take acc.length ++ [nm] ++ acc.drop acc.length).length ((acc.take acc.length ++ [nm] ++ acc.drop acc.length).map Value.string) from by
                    have h9 := own_le hown3 hbs
                    rw [List.nil_append, ← List.map_append, ← List.map_append, Nat.zero_add, ← List.length_append, ← List.length_append] at h9
                    exact h9)
                  have HB3 := Lib.hid (I.out.B.trans ((hB2.grown hg3 hs2 (fun g hg => (hown2.lt g hg).1)).mono hbs))
                  clear hown1 hown2 hown3 hg1 hg2 hg3 hB1 hB2
                  go_wp2
                  go_roundg (A.length + B.length + C.length - (i + 1))
                  case measure => omega
                  case rel => exact ⟨i + 1, by omega, by omega, by go_num, (show NInv _ _ _ _ from by rw [HACC1.out, HSUC.out, HI.out]; exact ⟨HB3.out, HO3.out⟩)⟩
              · go_wp2_with fail
                go_region_held3 (fun _ => True)
                  (trivial)
                  (first
                    | (refine step_append_strs (by rfl) (.tmp 84) (.tmp 87) (by rfl) wr.heap.size (.slice (some ⟨wr.heap.size, 0, none⟩) 0 0) 0 [] (by simp [Act.eval]) ((own_empty wr wr.heap.size _ 9 (Nat.le_refl _) rfl).drew) wr.heap.size (.slice (some ⟨g7, 0, none⟩) acc.length c7) (acc.take acc.length) (by simp [Act.eval]) ((SA.out.cut (Nat.le_refl _)).alloc (Nat.le_refl _) _).drew (by simp; omega) (by first | omega | (simp; done) | (simp; omega)) ?_; intro x1 y1 hown1 hg1; have hB1 : Below wr.heap.size wr y1 := (((Below.refl _ _).alloc (Nat.le_refl _) _).drew).grown hg1 (by first | omega | (simp; done) | (simp; omega)) (fun g hg => by simp [Value.ownBlock] at hg; omega); have hs1 := hB1.size; have hq : y1.heap.size = y1.heap.size := rfl)
                    | (refine step_append_strs (by rfl) (.tmp 84) (.tmp 87) (by rfl) wr.heap.size (.slice (some ⟨wr.heap.size, 0, none⟩) 0 0) 0 [] (by simp [Act.eval]) (((own_empty wr wr.heap.size _ 9 (Nat.le_refl _) rfl).alloc _).drew) wr.heap.size (.slice (some ⟨g7, 0, none⟩) acc.length c7) (acc.take acc.length) (by simp [Act.eval]) (((SA.out.cut (Nat.le_refl _)).alloc (Nat.le_refl _) _).alloc (by first | omega | (simp; done) | (simp; omega)) _).drew (by simp; omega) (by first | omega | (simp; done) | (simp; omega)) ?_; intro x1 y1 hown1 hg1; have hB1 : Below wr.heap.size wr y1 := ((((Below.refl _ _).alloc (Nat.le_refl _) _).alloc (by first | omega | (simp; done) | (simp; omega)) _).drew).grown hg1 (by first | omega | (simp; done) | (simp; omega)) (fun g hg => by simp [Value.ownBlock] at hg; omega); have hs1 := hB1.size; have hq : y1.cell? ⟨wr.heap.size + 1, 0, none⟩ = some (.string nm) := cell_grown hg1 (show World.cell? ((wr.alloc (.cells #[] 9)).alloc (.cells #[.string nm] 9)) ⟨wr.heap.size + 1, 0, none⟩ = _ from by simp) (by simp [Value.ownBlock]))
                    | (refine step_append_strs (by rfl) (.tmp 84) (.tmp 87) (by rfl) wr.heap.size (.slice (some ⟨wr.heap.size + 1, 0, none⟩) 0 0) 0 [] (by simp [Act.eval]) ((own_empty (wr.alloc (.cells #[.string nm] 9)) wr.heap.size _ 9 (by first | omega | (simp; done) | (simp; omega)) (by simp)).drew) wr.heap.size (.slice (some ⟨g7, 0, none⟩) acc.length c7) (acc.take acc.length) (by simp [Act.eval]) (((SA.out.cut (Nat.le_refl _)).alloc (Nat.le_refl _) _).alloc (by first | omega | (simp; done) | (simp; omega)) _).drew (by simp; omega) (by first | omega | (simp; done) | (simp; omega)) ?_; intro x1 y1 hown1 hg1; have hB1 : Below wr.heap.size wr y1 := ((((Below.refl _ _).alloc (Nat.le_refl _) _).alloc (by first | omega | (simp; done) | (simp; omega)) _).drew).grown hg1 (by first | omega | (simp; done) | (simp; omega)) (fun g hg => by simp [Value.ownBlock] at hg; omega); have hs1 := hB1.size; have hq : y1.cell? ⟨wr.heap.size, 0, none⟩ = some (.string nm) := cell_grown hg1 (show World.cell? ((wr.alloc (.cells #[.string nm] 9)).alloc (.cells #[] 9)) ⟨wr.heap.size, 0, none⟩ = _ from by simp) (by simp [Value.ownBlock]))
                    | (refine step_append_strs (by rfl) (.tmp 88) (.tmp 90) (by rfl) wr.heap.size x1 _ _ (by simp [Act.eval]) (hown1.alloc _) _ (.slice (some ⟨y1.heap.size, 0, none⟩) 1 1) [nm] (by simp [Act.eval]) (strs_one y1 _ rfl nm hnf _) (by simp; omega) (by first | omega | (simp; done) | (simp; omega)) ?_; intro x2 y2 hown2 hg2; have hB2 : Below wr.heap.size wr y2 := (hB1.alloc hs1 _).grown hg2 (by first | omega | (simp; done) | (simp; omega)) (fun g hg => (hown1.lt g hg).1); have hs2 := hB2.size)
                    | (refine step_append_strs (by rfl) (.tmp 88) (.tmp 90) (by rfl) wr.heap.size x1 _ _ (by simp [Act.eval]) hown1 _ (.slice (some ⟨wr.heap.size + 1, 0, none⟩) 1 1) [nm] (by simp [Act.eval]) (strs_cell (B := wr.heap.size + 2) hq (by omega) hnf) (by simp; omega) (by first | omega | (simp; done) | (simp; omega)) ?_; intro x2 y2 hown2 hg2; have hB2 : Below wr.heap.size wr y2 := (hB1).grown hg2 (by first | omega | (simp; done) | (simp; omega)) (fun g hg => (hown1.lt g hg).1); have hs2 := hB2.size)
                    | (refine step_append_strs (by rfl) (.tmp 88) (.tmp 90) (by rfl) wr.heap.size x1 _ _ (by simp [Act.eval]) hown1 _ (.slice (some ⟨wr.heap.size, 0, none⟩) 1 1) [nm] (by simp [Act.eval]) (strs_cell (B := wr.heap.size + 2) hq (by omega) hnf) (by simp; omega) (by first | omega | (simp; done) | (simp; omega)) ?_; intro x2 y2 hown2 hg2; have hB2 : Below wr.heap.size wr y2 := (hB1).grown hg2 (by first | omega | (simp; done) | (simp; omega)) (fun g hg => (hown1.lt g hg).1); have hs2 := hB2.size)
                    | (refine step_append_strs (by rfl) (.tmp 91) (.tmp 94) (by rfl) wr.heap.size x2 _ _ (by simp [Act.eval]) hown2 wr.heap.size (.slice (some ⟨g7, acc.length, none⟩) 0 (c7 - acc.length)) (acc.drop acc.length) (by simp [Act.eval]) (by rw [List.drop_length]; exact Strs.empty _ _ _ _) (by simp; omega) (by first | omega | (simp; done) | (simp; omega)) ?_; intro x3 y3 hown3 hg3)
                    | ((trace_state; fail)))
                all_goals
                  have hbs := I.out.B.size
                  have HO3 := Lib.hid (show y3.ownsRow w.heap.size 9 1 x3 (acc.take acc.length ++ [nm] ++ acc.drop acc.length).length ((acc.take acc.length ++ [nm] ++ acc.drop acc.length).map Value.string) from by
                    have h9 := own_le hown3 hbs
                    rw [List.nil_append, ← List.map_append, ← List.map_append, Nat.zero_add, ← List.length_append, ← List.length_append] at h9
                    exact h9)
                  have HB3 := Lib.hid (I.out.B.trans ((hB2.grown hg3 hs2 (fun g hg => (hown2.lt g hg).1)).mono hbs))
                  clear hown1 hown2 hown3 hg1 hg2 hg3 hB1 hB2
                  go_wp2
                  go_roundg (A.length + B.length + C.length - (i + 1))
                  case measure => omega
                  case rel => exact ⟨i + 1, by omega, by omega, by go_num, (show NInv _ _ _ _ from by rw [HACC1.out, HSUC.out, HI.out]; exact ⟨HB3.out, HO3.out⟩)⟩
      · have qz : ¬ (i : Int) < (A.length : Int) := by omega
        have qz2 : (i : Int) < (A.length : Int) + (B.length : Int) := by omega
        have qz3 : (0 : Int) ≤ (i : Int) - (A.length : Int) := by omega
        have qz4 : (i : Int) - (A.length : Int) < (B.length : Int) := by omega
        have qz5 : ((i : Int) - (A.length : Int)).toNat = i - A.length := by omega
        obtain ⟨b, o, rfl, hb, hj⟩ := HB.out.spot (by omega)
        have g0 := (hbw.cell (p := ⟨b, o + (i - A.length) * 2, none⟩) hb).trans (hj (i - A.length) (by omega)).1
        rw [← hy, hyn] at g0
        clear hj hy
        go_wp2_with fail
        clear g0
        go_loopg [10] acc.length (fun gg s10 w5 => ∃ k : Nat, k ≤ acc.length ∧ acc.length - k ≤ gg ∧ s10 = .int .i64 k ∧ wr = w5 ∧ Aside (∀ j, j < k → ltS (acc.getD j ByteArray.empty) nm = true))
        case atStart => exact ⟨0, by omega, by omega, rfl, rfl, fun j hj => absurd hj (Nat.not_lt_zero _)⟩
        case round =>
          obtain ⟨k, hk, hgk, rfl, hww, KA⟩ := hrel
          subst hww
          have hk0 : (0 : Int) ≤ (k : Int) := Int.natCast_nonneg _
          by_cases hkl : k < acc.length
          · have hklz : (k : Int) < (acc.length : Int) := by omega
            have hkne : ((k : Int) == (acc.length : Int)) = false := by simp; omega
            obtain ⟨b7, o7, rfl, hb7, hj7⟩ := SA.out.spot (by omega)
            have k0 := hj7 k hkl
            clear hj7
            generalize hz : acc.getD k ByteArray.empty = z at k0
            have Z := Lib.hid hz
            clear hz
            cases hlz : ltS z nm with
            | true =>
              have hb1 : Op.bytesLess z.toList nm.toList = true := hlz
              have KZ := Lib.hid hlz
              clear hlz
              go_wp2
              go_roundg (acc.length - (k + 1))
              case measure => omega
              case rel =>
                refine ⟨k + 1, by omega, by omega, by go_num, rfl, (show Aside _ from fun j hj => ?_)⟩
                by_cases e : j = k
                · subst e; rw [Z.out]; exact KZ.out
                · exact KA.out j (by omega)
            | false =>
              have hb1 : Op.bytesLess z.toList nm.toList = false := hlz
              by_cases hzn : z = nm
              · have hb2 : (z.toList == nm.toList) = true := by rw [beq_str]; simpa using hzn
                have HI := Lib.hid (ins_there (s := nm) hkl (by rw [Z.out]; exact hzn))
                clear hlz hzn
                go_wp2_with fail
                go_roundg (A.length + B.length + C.length - (i + 1))
                case measure => omega
                case rel => exact ⟨i + 1, by omega, by omega, by go_num, (show NInv _ _ _ _ from by rw [HACC1.out, HSUC.out, HI.out]; exact I.out)⟩
              · have hb2 : (z.toList == nm.toList) = false := by rw [beq_str]; simpa using hzn
                have HI := Lib.hid (ins_new (s := nm) ASC.out hk KA.out (fun _ => ⟨by rw [Z.out]; exact hlz, by rw [Z.out]; exact hzn⟩))
                clear hlz hzn
                have hck : ¬ c7 = k := by omega
                have hkc : (k : Int) ≤ (c7 : Int) := by omega
                have hkl2 : (k : Int) ≤ (acc.length : Int) := by omega
                have hlc2 : (acc.length : Int) ≤ (c7 : Int) := by omega
                go_wp2_with fail
                go_region_held3 (fun _ => True)
                  (trivial)
                  (first
                    | (refine step_append_strs (by rfl) (.tmp 84) (.tmp 87) (by rfl) wr.heap.size (.slice (some ⟨wr.heap.size, 0, none⟩) 0 0) 0 [] (by simp [Act.eval]) ((own_empty wr wr.heap.size _ 9 (Nat.le_refl _) rfl).drew) wr.heap.size (.slice (some ⟨b7, o7, none⟩) k c7) (acc.take k) (by simp [Act.eval]) ((SA.out.cut hk).alloc (Nat.le_refl _) _).drew (by simp; omega) (by first | omega | (simp; done) | (simp; omega)) ?_; intro x1 y1 hown1 hg1; have hB1 : Below wr.heap.size wr y1 := (((Below.refl _ _).alloc (Nat.le_refl _) _).drew).grown hg1 (by first | omega | (simp; done) | (simp; omega)) (fun g hg => by simp [Value.ownBlock] at hg; omega); have hs1 := hB1.size; have hq : y1.heap.size = y1.heap.size := rfl)
                    | (refine step_append_strs (by rfl) (.tmp 84) (.tmp 87) (by rfl) wr.heap.size (.slice (some ⟨wr.heap.size, 0, none⟩) 0 0) 0 [] (by simp [Act.eval]) (((own_empty wr wr.heap.size _ 9 (Nat.le_refl _) rfl).alloc _).drew) wr.heap.size (.slice (some ⟨b7, o7, none⟩) k c7) (acc.take k) (by simp [Act.eval]) (((SA.out.cut hk).alloc (Nat.le_refl _) _).alloc (by first | omega | (simp; done) | (simp; omega)) _).drew (by simp; omega) (by first | omega | (simp; done) | (simp; omega)) ?_; intro x1 y1 hown1 hg1; have hB1 : Below wr.heap.size wr y1 := ((((Below.refl _ _).alloc (Nat.le_refl _) _).alloc (by first | omega | (simp; done) | (simp; omega)) _).drew).grown hg1 (by first | omega | (simp; done) | (simp; omega)) (fun g hg => by simp [Value.ownBlock] at hg; omega); have hs1 := hB1.size; have hq : y1.cell? ⟨wr.heap.size + 1, 0, none⟩ = some (.string nm) := cell_grown hg1 (show World.cell? ((wr.alloc (.cells #[] 9)).alloc (.cells #[.string nm] 9)) ⟨wr.heap.size + 1, 0, none⟩ = _ from by simp) (by simp [Value.ownBlock]))
                    | (refine step_append_strs (by rfl) (.tmp 84) (.tmp 87) (by rfl) wr.heap.size (.slice (some ⟨wr.heap.size + 1, 0, none⟩) 0 0) 0 [] (by simp [Act.eval]) ((own_empty (wr.alloc (.cells #[.string nm] 9)) wr.heap.size _ 9 (by first | omega | (simp; done) | (simp; omega)) (by simp)).drew) wr.heap.size (.slice (some ⟨b7, o7, none⟩) k c7) (acc.take k) (by simp [Act.eval]) (((SA.out.cut hk).alloc (Nat.le_refl _) _).alloc (by first | omega | (simp; done) | (simp; omega)) _).drew (by simp; omega) (by first | omega | (simp; done) | (simp; omega)) ?_; intro x1 y1 hown1 hg1; have hB1 : Below wr.heap.size wr y1 := ((((Below.refl _ _).alloc (Nat.le_refl _) _).alloc (by first | omega | (simp; done) | (simp; omega)) _).drew).grown hg1 (by first | omega | (simp; done) | (simp; omega)) (fun g hg => by simp [Value.ownBlock] at hg; omega); have hs1 := hB1.size; have hq : y1.cell? ⟨wr.heap.size, 0, none⟩ = some (.string nm) := cell_grown hg1 (show World.cell? ((wr.alloc (.cells #[.string nm] 9)).alloc (.cells #[] 9)) ⟨wr.heap.size, 0, none⟩ = _ from by simp) (by simp [Value.ownBlock]))
                    | (refine step_append_strs (by rfl) (.tmp 88) (.tmp 90) (by rfl) wr.heap.size x1 _ _ (by simp [Act.eval]) (hown1.alloc _) _ (.slice (some ⟨y1.heap.size, 0, none⟩) 1 1) [nm] (by simp [Act.eval]) (strs_one y1 _ rfl nm hnf _) (by simp; omega) (by first | omega | (simp; done) | (simp; omega)) ?_; intro x2 y2 hown2 hg2; have hB2 : Below wr.heap.size wr y2 := (hB1.alloc hs1 _).grown hg2 (by first | omega | (simp; done) | (simp; omega)) (fun g hg => (hown1.lt g hg).1); have hs2 := hB2.size)
                    | (refine step_append_strs (by rfl) (.tmp 88) (.tmp 90) (by rfl) wr.heap.size x1 _ _ (by simp [Act.eval]) hown1 _ (.slice (some ⟨wr.heap.size + 1, 0, none⟩) 1 1) [nm] (by simp [Act.eval]) (strs_cell (B := wr.heap.size + 2) hq (by omega) hnf) (by simp; omega) (by first | omega | (simp; done) | (simp; omega)) ?_; intro x2 y2 hown2 hg2; have hB2 : Below wr.heap.size wr y2 := (hB1).grown hg2 (by first | omega | (simp; done) | (simp; omega)) (fun g hg => (hown1.lt g hg).1); have hs2 := hB2.size)
                    | (refine step_append_strs (by rfl) (.tmp 88) (.tmp 90) (by rfl) wr.heap.size x1 _ _ (by simp [Act.eval]) hown1 _ (.slice (some ⟨wr.heap.size, 0, none⟩) 1 1) [nm] (by simp [Act.eval]) (strs_cell (B := wr.heap.size + 2) hq (by omega) hnf) (by simp; omega) (by first | omega | (simp; done) | (simp; omega)) ?_; intro x2 y2 hown2 hg2; have hB2 : Below wr.heap.size wr y2 := (hB1).grown hg2 (by first | omega | (simp; done) | (simp; omega)) (fun g hg => (hown1.lt g hg).1); have hs2 := hB2.size)
                    | (refine step_append_strs (by rfl) (.tmp 91) (.tmp 94) (by rfl) wr.heap.size x2 _ _ (by simp [Act.eval]) hown2 wr.heap.size (.slice (some ⟨b7, o7 + k, none⟩) (acc.length - k) (c7 - k)) (acc.drop k) (by simp [Act.eval]) ((SA.out.from_ hk).below hB2) (by simp; omega) (by first | omega | (simp; done) | (simp; omega)) ?_; intro x3 y3 hown3 hg3)
                    | ((trace_state; fail)))
                all_goals
                  have hbs := I.out.B.size
                  have HO3 := Lib.hid (show y3.ownsRow w.heap.size 9 1 x3 (acc.take k ++ [nm] ++ acc.drop k).length ((acc.take k ++ [nm] ++ acc.drop k).map Value.string) from by
                    have h9 := own_le hown3 hbs
                    rw [List.nil_append, ← List.map_append, ← List.map_append, Nat.zero_add, ← List.length_append, ← List.length_append] at h9
                    exact h9)
                  have HB3 := Lib.hid (I.out.B.trans ((hB2.grown hg3 hs2 (fun g hg => (hown2.lt g hg).1)).mono hbs))
                  clear hown1 hown2 hown3 hg1 hg2 hg3 hB1 hB2
                  go_wp2
                  go_roundg (A.length + B.length + C.length - (i + 1))
                  case measure => omega
                  case rel => exact ⟨i + 1, by omega, by omega, by go_num, (show NInv _ _ _ _ from by rw [HACC1.out, HSUC.out, HI.out]; exact ⟨HB3.out, HO3.out⟩)⟩
          · obtain rfl : k = acc.length := by omega
            have HI := Lib.hid (ins_new (s := nm) ASC.out (Nat.le_refl _) KA.out (fun h => absurd h (Nat.lt_irrefl _)))
            rcases I.out.own.2 with ⟨h7, h70⟩ | ⟨g7, cap7, cur7, h7, _, _, _, _, _, _⟩
            · obtain rfl : acc = [] := List.eq_nil_of_length_eq_zero h70
              injection h7 with e1 _ e2
              subst e1 e2
              clear h70
              have HI : Hid (insU [] nm = [] ++ [nm] ++ []) := HI
              go_wp2_with fail
              go_region_held3 (fun _ => True)
                (trivial)
                (first
                  | (refine step_append_strs (by rfl) (.tmp 84) (.tmp 87) (by rfl) wr.heap.size (.slice (some ⟨wr.heap.size, 0, none⟩) 0 0) 0 [] (by simp [Act.eval]) ((own_empty wr wr.heap.size _ 9 (Nat.le_refl _) rfl).drew) wr.heap.size (.slice none 0 0) (([] : List ByteArray)) (by simp [Act.eval]) ((SA.out).alloc (Nat.le_refl _) _).drew (by first | omega | (simp; done) | (simp; omega)) (by first | omega | (simp; done) | (simp; omega)) ?_; intro x1 y1 hown1 hg1; have hB1 : Below wr.heap.size wr y1 := (((Below.refl _ _).alloc (Nat.le_refl _) _).drew).grown hg1 (by first | omega | (simp; done) | (simp; omega)) (fun g hg => by simp [Value.ownBlock] at hg; omega); have hs1 := hB1.size; have hq : y1.heap.size = y1.heap.size := rfl)
                  | (refine step_append_strs (by rfl) (.tmp 84) (.tmp 87) (by rfl) wr.heap.size (.slice (some ⟨wr.heap.size, 0, none⟩) 0 0) 0 [] (by simp [Act.eval]) (((own_empty wr wr.heap.size _ 9 (Nat.le_refl _) rfl).alloc _).drew) wr.heap.size (.slice none 0 0) (([] : List ByteArray)) (by simp [Act.eval]) (((SA.out).alloc (Nat.le_refl _) _).alloc (by first | omega | (simp; done) | (simp; omega)) _).drew (by first | omega | (simp; done) | (simp; omega)) (by first | omega | (simp; done) | (simp; omega)) ?_; intro x1 y1 hown1 hg1; have hB1 : Below wr.heap.size wr y1 := ((((Below.refl _ _).alloc (Nat.le_refl _) _).alloc (by first | omega | (simp; done) | (simp; omega)) _).drew).grown hg1 (by first | omega | (simp; done) | (simp; omega)) (fun g hg => by simp [Value.ownBlock] at hg; omega); have hs1 := hB1.size; have hq : y1.cell? ⟨wr.heap.size + 1, 0, none⟩ = some (.string nm) := cell_grown hg1 (show World.cell? ((wr.alloc (.cells #[] 9)).alloc (.cells #[.string nm] 9)) ⟨wr.heap.size + 1, 0, none⟩ = _ from by simp) (by simp [Value.ownBlock]))
                  | (refine step_append_strs (by rfl) (.tmp 84) (.tmp 87) (by rfl) wr.heap.size (.slice (some ⟨wr.heap.size + 1, 0, none⟩) 0 0) 0 [] (by simp [Act.eval]) ((own_empty (wr.alloc (.cells #[.string nm] 9)) wr.heap.size _ 9 (by first | omega | (simp; done) | (simp; omega)) (by simp)).drew) wr.heap.size (.slice none 0 0) (([] : List ByteArray)) (by simp [Act.eval]) (((SA.out).alloc (Nat.le_refl _) _).alloc (by first | omega | (simp; done) | (simp; omega)) _).drew (by first | omega | (simp; done) | (simp; omega)) (by first | omega | (simp; done) | (simp; omega)) ?_; intro x1 y1 hown1 hg1; have hB1 : Below wr.heap.size wr y1 := ((((Below.refl _ _).alloc (Nat.le_refl _) _).alloc (by first | omega | (simp; done) | (simp; omega)) _).drew).grown hg1 (by first | omega | (simp; done) | (simp; omega)) (fun g hg => by simp [Value.ownBlock] at hg; omega); have hs1 := hB1.size; have hq : y1.cell? ⟨wr.heap.size, 0, none⟩ = some (.string nm) := cell_grown hg1 (show World.cell? ((wr.alloc (.cells #[.string nm] 9)).alloc (.cells #[] 9)) ⟨wr.heap.size, 0, none⟩ = _ from by simp) (by simp [Value.ownBlock]))
                  | (refine step_append_strs (by rfl) (.tmp 88) (.tmp 90) (by rfl) wr.heap.size x1 _ _ (by simp [Act.eval]) (hown1.alloc _) _ (.slice (some ⟨y1.heap.size, 0, none⟩) 1 1) [nm] (by simp [Act.eval]) (strs_one y1 _ rfl nm hnf _) (by first | omega | (simp; done) | (simp; omega)) (by first | omega | (simp; done) | (simp; omega)) ?_; intro x2 y2 hown2 hg2; have hB2 : Below wr.heap.size wr y2 := (hB1.alloc hs1 _).grown hg2 (by first | omega | (simp; done) | (simp; omega)) (fun g hg => (hown1.lt g hg).1); have hs2 := hB2.size)
                  | (refine step_append_strs (by rfl) (.tmp 88) (.tmp 90) (by rfl) wr.heap.size x1 _ _ (by simp [Act.eval]) hown1 _ (.slice (some ⟨wr.heap.size + 1, 0, none⟩) 1 1) [nm] (by simp [Act.eval]) (strs_cell (B := wr.heap.size + 2) hq (by omega) hnf) (by first | omega | (simp; done) | (simp; omega)) (by first | omega | (simp; done) | (simp; omega)) ?_; intro x2 y2 hown2 hg2; have hB2 : Below wr.heap.size wr y2 := (hB1).grown hg2 (by first | omega | (simp; done) | (simp; omega)) (fun g hg => (hown1.lt g hg).1); have hs2 := hB2.size)
                  | (refine step_append_strs (by rfl) (.tmp 88) (.tmp 90) (by rfl) wr.heap.size x1 _ _ (by simp [Act.eval]) hown1 _ (.slice (some ⟨wr.heap.size, 0, none⟩) 1 1) [nm] (by simp [Act.eval]) (strs_cell (B := wr.heap.size + 2) hq (by omega) hnf) (by first | omega | (simp; done) | (simp; omega)) (by first | omega | (simp; done) | (simp; omega)) ?_; intro x2 y2 hown2 hg2; have hB2 : Below wr.heap.size wr y2 := (hB1).grown hg2 (by first | omega | (simp; done) | (simp; omega)) (fun g hg => (hown1.lt g hg).1); have hs2 := hB2.size)
                  | (refine step_append_strs (by rfl) (.tmp 91) (.tmp 94) (by rfl) wr.heap.size x2 _ _ (by simp [Act.eval]) hown2 wr.heap.size (.slice none 0 0) (([] : List ByteArray)) (by simp [Act.eval]) (Strs.empty _ _ _ _) (by first | omega | (simp; done) | (simp; omega)) (by first | omega | (simp; done) | (simp; omega)) ?_; intro x3 y3 hown3 hg3)
                  | ((trace_state; fail)))
              all_goals
                have hbs := I.out.B.size
                have HO3 := Lib.hid (show y3.ownsRow w.heap.size 9 1 x3 (([] : List ByteArray) ++ [nm] ++ ([] : List ByteArray)).length ((([] : List ByteArray) ++ [nm] ++ ([] : List ByteArray)).map Value.string) from by
                  have h9 := own_le hown3 hbs
                  rw [List.nil_append, ← List.map_append, ← List.map_append, Nat.zero_add, ← List.length_append, ← List.length_append] at h9
                  exact h9)
                have HB3 := Lib.hid (I.out.B.trans ((hB2.grown hg3 hs2 (fun g hg => (hown2.lt g hg).1)).mono hbs))
                clear hown1 hown2 hown3 hg1 hg2 hg3 hB1 hB2
                go_wp2
                go_roundg (A.length + B.length + C.length - (i + 1))
                case measure => omega
                case rel => exact ⟨i + 1, by omega, by omega, by go_num, (show NInv _ _ _ _ from by rw [HACC1.out, HSUC.out, HI.out]; exact ⟨HB3.out, HO3.out⟩)⟩
            · injection h7 with e1 _ e2
              subst e1 e2
              have hklz : decide ((acc.length : Int) < (acc.length : Int)) = false := by simp
              have hkne : ((acc.length : Int) == (acc.length : Int)) = true := by simp
              have hlc2 : (acc.length : Int) ≤ (c7 : Int) := by omega
              by_cases hck : c7 = acc.length
              · subst hck
                go_wp2_with fail
                go_region_held3 (fun _ => True)
                  (trivial)
                  (first
                    | (refine step_append_strs (by rfl) (.tmp 84) (.tmp 87) (by rfl) wr.heap.size (.slice (some ⟨wr.heap.size, 0, none⟩) 0 0) 0 [] (by simp [Act.eval]) ((own_empty wr wr.heap.size _ 9 (Nat.le_refl _) rfl).drew) wr.heap.size (.slice (some ⟨g7, 0, none⟩) acc.length acc.length) (acc.take acc.length) (by simp [Act.eval]) ((SA.out.cut (Nat.le_refl _)).alloc (Nat.le_refl _) _).drew (by simp; omega) (by first | omega | (simp; done) | (simp; omega)) ?_; intro x1 y1 hown1 hg1; have hB1 : Below wr.heap.size wr y1 := (((Below.refl _ _).alloc (Nat.le_refl _) _).drew).grown hg1 (by first | omega | (simp; done) | (simp; omega)) (fun g hg => by simp [Value.ownBlock] at hg; omega); have hs1 := hB1.size; have hq : y1.heap.size = y1.heap.size := rfl)
                    | (refine step_append_strs (by rfl) (.tmp 84) (.tmp 87) (by rfl) wr.heap.size (.slice (some ⟨wr.heap.size, 0, none⟩) 0 0) 0 [] (by simp [Act.eval]) (((own_empty wr wr.heap.size _ 9 (Nat.le_refl _) rfl).alloc _).drew) wr.heap.size (.slice (some ⟨g7, 0, none⟩) acc.length acc.length) (acc.take acc.length) (by simp [Act.eval]) (((SA.out.cut (Nat.le_refl _)).alloc (Nat.le_refl _) _).alloc (by first | omega | (simp; done) | (simp; omega)) _).drew (by simp; omega) (by first | omega | (simp; done) | (simp; omega)) ?_; intro x1 y1 hown1 hg1; have hB1 : Below wr.heap.size wr y1 := ((((Below.refl _ _).alloc (Nat.le_refl _) _).alloc (by first | omega | (simp; done) | (simp; omega)) _).drew).grown hg1 (by first | omega | (simp; done) | (simp; omega)) (fun g hg => by simp [Value.ownBlock] at hg; omega); have hs1 := hB1.size; have hq : y1.cell? ⟨wr.heap.size + 1, 0, none⟩ = some (.string nm) := cell_grown hg1 (show World.cell? ((wr.alloc (.cells #[] 9)).alloc (.cells #[.string nm] 9)) ⟨wr.heap.size + 1, 0, none⟩ = _ from by simp) (by simp [Value.ownBlock]))
                    | (refine step_append_strs (by rfl) (.tmp 84) (.tmp 87) (by rfl) wr.heap.size (.slice (some ⟨wr.heap.size + 1, 0, none⟩) 0 0) 0 [] (by simp [Act.eval]) ((own_empty (wr.alloc (.cells #[.string nm] 9)) wr.heap.size _ 9 (by first | omega | (simp; done) | (simp; omega)) (by simp)).drew) wr.heap.size (.slice (some ⟨g7, 0, none⟩) acc.length acc.length) (acc.take acc.length) (by simp [Act.eval]) (((SA.out.cut (Nat.le_refl _)).alloc (Nat.le_refl _) _).alloc (by first | omega | (simp; done) | (simp; omega)) _).drew (by simp; omega) (by first | omega | (simp; done) | (simp; omega)) ?_; intro x1 y1 hown1 hg1; have hB1 : Below wr.heap.size wr y1 := ((((Below.refl _ _).alloc (Nat.le_refl _) _).alloc (by first | omega | (simp; done) | (simp; omega)) _).drew).grown hg1 (by first | omega | (simp; done) | (simp; omega)) (fun g hg => by simp [Value.ownBlock] at hg; omega); have hs1 := hB1.size; have hq : y1.cell? ⟨wr.heap.size, 0, none⟩ = some (.string nm) := cell_grown hg1 (show World.cell? ((wr.alloc (.cells #[.string nm] 9)).alloc (.cells #[] 9)) ⟨wr.heap.size, 0, none⟩ = _ from by simp) (by simp [Value.ownBlock]))
                    | (refine step_append_strs (by rfl) (.tmp 88) (.tmp 90) (by rfl) wr.heap.size x1 _ _ (by simp [Act.eval]) (hown1.alloc _) _ (.slice (some ⟨y1.heap.size, 0, none⟩) 1 1) [nm] (by simp [Act.eval]) (strs_one y1 _ rfl nm hnf _) (by simp; omega) (by first | omega | (simp; done) | (simp; omega)) ?_; intro x2 y2 hown2 hg2; have hB2 : Below wr.heap.size wr y2 := (hB1.alloc hs1 _).grown hg2 (by first | omega | (simp; done) | (simp; omega)) (fun g hg => (hown1.lt g hg).1); have hs2 := hB2.size)
                    | (refine step_append_strs (by rfl) (.tmp 88) (.tmp 90) (by rfl) wr.heap.size x1 _ _ (by simp [Act.eval]) hown1 _ (.slice (some ⟨wr.heap.size + 1, 0, none⟩) 1 1) [nm] (by simp [Act.eval]) (strs_cell (B := wr.heap.size + 2) hq (by omega) hnf) (by simp; omega) (by first | omega | (simp; done) | (simp; omega)) ?_; intro x2 y2 hown2 hg2; have hB2 : Below wr.heap.size wr y2 := (hB1).grown hg2 (by first | omega | (simp; done) | (simp; omega)) (fun g hg => (hown1.lt g hg).1); have hs2 := hB2.size)
                    | (refine step_append_strs (by rfl) (.tmp 88) (.tmp 90) (by rfl) wr.heap.size x1 _ _ (by simp [Act.eval]) hown1 _ (.slice (some ⟨wr.heap.size, 0, none⟩) 1 1) [nm] (by simp [Act.eval]) (strs_cell (B := wr.heap.size + 2) hq (by omega) hnf) (by simp; omega) (by first | omega | (simp; done) | (simp; omega)) ?_; intro x2 y2 hown2 hg2; have hB2 : Below wr.heap.size wr y2 := (hB1).grown hg2 (by first | omega | (simp; done) | (simp; omega)) (fun g hg => (hown1.lt g hg).1); have hs2 := hB2.size)
                    | (refine step_append_strs (by rfl) (.tmp 91) (.tmp 94) (by rfl) wr.heap.size x2 _ _ (by simp [Act.eval]) hown2 wr.heap.size (.slice (some ⟨g7, 0, none⟩) 0 0) (acc.drop acc.length) (by simp [Act.eval]) (by rw [List.drop_length]; exact Strs.empty _ _ _ _) (by simp; omega) (by first | omega | (simp; done) | (simp; omega)) ?_; intro x3 y3 hown3 hg3)
                    | ((trace_state; fail)))
                all_goals
                  have hbs := I.out.B.size
                  have HO3 := Lib.hid (show y3.ownsRow w.heap.size 9 1 x3 (acc.take acc.length ++ [nm] ++ acc.drop acc.length).length ((acc.take acc.length ++ [nm] ++ acc.drop acc.length).map Value.string) from by
                    have h9 := own_le hown3 hbs
                    rw [List.nil_append, ← List.map_append, ← List.map_append, Nat.zero_add, ← List.length_append, ← List.length_append] at h9
                    exact h9)
                  have HB3 := Lib.hid (I.out.B.trans ((hB2.grown hg3 hs2 (fun g hg => (hown2.lt g hg).1)).mono hbs))
                  clear hown1 hown2 hown3 hg1 hg2 hg3 hB1 hB2
                  go_wp2
                  go_roundg (A.length + B.length + C.length - (i + 1))
                  case measure => omega
                  case rel => exact ⟨i + 1, by omega, by omega, by go_num, (show NInv _ _ _ _ from by rw [HACC1.out, HSUC.out, HI.out]; exact ⟨HB3.out, HO3.out⟩)⟩
              · go_wp2_with fail
                go_region_held3 (fun _ => True)
                  (trivial)
                  (first
                    | (refine step_append_strs (by rfl) (.tmp 84) (.tmp 87) (by rfl) wr.heap.size (.slice (some ⟨wr.heap.size, 0, none⟩) 0 0) 0 [] (by simp [Act.eval]) ((own_empty wr wr.heap.size _ 9 (Nat.le_refl _) rfl).drew) wr.heap.size (.slice (some ⟨g7, 0, none⟩) acc.length c7) (acc.take acc.length) (by simp [Act.eval]) ((SA.out.cut (Nat.le_refl _)).alloc (Nat.le_refl _) _).drew (by simp; omega) (by first | omega | (simp; done) | (simp; omega)) ?_; intro x1 y1 hown1 hg1; have hB1 : Below wr.heap.size wr y1 := (((Below.refl _ _).alloc (Nat.le_refl _) _).drew).grown hg1 (by first | omega | (simp; done) | (simp; omega)) (fun g hg => by simp [Value.ownBlock] at hg; omega); have hs1 := hB1.size; have hq : y1.heap.size = y1.heap.size := rfl)
                    | (refine step_append_strs (by rfl) (.tmp 84) (.tmp 87) (by rfl) wr.heap.size (.slice (some ⟨wr.heap.size, 0, none⟩) 0 0) 0 [] (by simp [Act.eval]) (((own_empty wr wr.heap.size _ 9 (Nat.le_refl _) rfl).alloc _).drew) wr.heap.size (.slice (some ⟨g7, 0, none⟩) acc.length c7) (acc.take acc.length) (by simp [Act.eval]) (((SA.out.cut (Nat.le_refl _)).alloc (Nat.le_refl _) _).alloc (by first | omega | (simp; done) | (simp; omega)) _).drew (by simp; omega) (by first | omega | (simp; done) | (simp; omega)) ?_; intro x1 y1 hown1 hg1; have hB1 : Below wr.heap.size wr y1 := ((((Below.refl _ _).alloc (Nat.le_refl _) _).alloc (by first | omega | (simp; done) | (simp; omega)) _).drew).grown hg1 (by first | omega | (simp; done) | (simp; omega)) (fun g hg => by simp [Value.ownBlock] at hg; omega); have hs1 := hB1.size; have hq : y1.cell? ⟨wr.heap.size + 1, 0, none⟩ = some (.string nm) := cell_grown hg1 (show World.cell? ((wr.alloc (.cells #[] 9)).alloc (.cells #[.string nm] 9)) ⟨wr.heap.size + 1, 0, none⟩ = _ from by simp) (by simp [Value.ownBlock]))
                    | (refine step_append_strs (by rfl) (.tmp 84) (.tmp 87) (by rfl) wr.heap.size (.slice (some ⟨wr.heap.size + 1, 0, none⟩) 0 0) 0 [] (by simp [Act.eval]) ((own_empty (wr.alloc (.cells #[.string nm] 9)) wr.heap.size _ 9 (by first | omega | (simp; done) | (simp; omega)) (by simp)).drew) wr.heap.size (.slice (some ⟨g7, 0, none⟩) acc.length c7) (acc.take acc.length) (by simp [Act.eval]) (((SA.out.cut (Nat.le_refl _)).alloc (Nat.le_refl _) _).alloc (by first | omega | (simp; done) | (simp; omega)) _).drew (by simp; omega) (by first | omega | (simp; done) | (simp; omega)) ?_; intro x1 y1 hown1 hg1; have hB1 : Below wr.heap.size wr y1 := ((((Below.refl _ _).alloc (Nat.le_refl _) _).alloc (by first | omega | (simp; done) | (simp; omega)) _).drew).grown hg1 (by first | omega | (simp; done) | (simp; omega)) (fun g hg => by simp [Value.ownBlock] at hg; omega); have hs1 := hB1.size; have hq : y1.cell? ⟨wr.heap.size, 0, none⟩ = some (.string nm) := cell_grown hg1 (show World.cell? ((wr.alloc (.cells #[.string nm] 9)).alloc (.cells #[] 9)) ⟨wr.heap.size, 0, none⟩ = _ from by simp) (by simp [Value.ownBlock]))
                    | (refine step_append_strs (by rfl) (.tmp 88) (.tmp 90) (by rfl) wr.heap.size x1 _ _ (by simp [Act.eval]) (hown1.alloc _) _ (.slice (some ⟨y1.heap.size, 0, none⟩) 1 1) [nm] (by simp [Act.eval]) (strs_one y1 _ rfl nm hnf _) (by simp; omega) (by first | omega | (simp; done) | (simp; omega)) ?_; intro x2 y2 hown2 hg2; have hB2 : Below wr.heap.size wr y2 := (hB1.alloc hs1 _).grown hg2 (by first | omega | (simp; done) | (simp; omega)) (fun g hg => (hown1.lt g hg).1); have hs2 := hB2.size)
                    | (refine step_append_strs (by rfl) (.tmp 88) (.tmp 90) (by rfl) wr.heap.size x1 _ _ (by simp [Act.eval]) hown1 _ (.slice (some ⟨wr.heap.size + 1, 0, none⟩) 1 1) [nm] (by simp [Act.eval]) (strs_cell (B := wr.heap.size + 2) hq (by omega) hnf) (by simp; omega) (by first | omega | (simp; done) | (simp; omega)) ?_; intro x2 y2 hown2 hg2; have hB2 : Below wr.heap.size wr y2 := (hB1).grown hg2 (by first | omega | (simp; done) | (simp; omega)) (fun g hg => (hown1.lt g hg).1); have hs2 := hB2.size)
                    | (refine step_append_strs (by rfl) (.tmp 88) (.tmp 90) (by rfl) wr.heap.size x1 _ _ (by simp [Act.eval]) hown1 _ (.slice (some ⟨wr.heap.size, 0, none⟩) 1 1) [nm] (by simp [Act.eval]) (strs_cell (B := wr.heap.size + 2) hq (by omega) hnf) (by simp; omega) (by first | omega | (simp; done) | (simp; omega)) ?_; intro x2 y2 hown2 hg2; have hB2 : Below wr.heap.size wr y2 := (hB1).grown hg2 (by first | omega | (simp; done) | (simp; omega)) (fun g hg => (hown1.lt g hg).1); have hs2 := hB2.size)
                    | (refine step_append_strs (by rfl) (.tmp 91) (.tmp 94) (by rfl) wr.heap.size x2 _ _ (by simp [Act.eval]) hown2 wr.heap.size (.slice (some ⟨g7, acc.length, none⟩) 0 (c7 - acc.length)) (acc.drop acc.length) (by simp [Act.eval]) (by rw [List.drop_length]; exact Strs.empty _ _ _ _) (by simp; omega) (by first | omega | (simp; done) | (simp; omega)) ?_; intro x3 y3 hown3 hg3)
                    | ((trace_state; fail)))
                all_goals
                  have hbs := I.out.B.size
                  have HO3 := Lib.hid (show y3.ownsRow w.heap.size 9 1 x3 (acc.take acc.length ++ [nm] ++ acc.drop acc.length).length ((acc.take acc.length ++ [nm] ++ acc.drop acc.length).map Value.string) from by
                    have h9 := own_le hown3 hbs
                    rw [List.nil_append, ← List.map_append, ← List.map_append, Nat.zero_add, ← List.length_append, ← List.length_append] at h9
                    exact h9)
                  have HB3 := Lib.hid (I.out.B.trans ((hB2.grown hg3 hs2 (fun g hg => (hown2.lt g hg).1)).mono hbs))
                  clear hown1 hown2 hown3 hg1 hg2 hg3 hB1 hB2
                  go_wp2
                  go_roundg (A.length + B.length + C.length - (i + 1))
                  case measure => omega
                  case rel => exact ⟨i + 1, by omega, by omega, by go_num, (show NInv _ _ _ _ from by rw [HACC1.out, HSUC.out, HI.out]; exact ⟨HB3.out, HO3.out⟩)⟩
      · have qz : ¬ (i : Int) < (A.length : Int) := by omega
        have qz2 : ¬ (i : Int) < (A.length : Int) + (B.length : Int) := by omega
        have qz3 : (0 : Int) ≤ (i : Int) - (A.length : Int) - (B.length : Int) := by omega
        have qz4 : (i : Int) - (A.length : Int) - (B.length : Int) < (C.length : Int) := by omega
        have qz5 : ((i : Int) - (A.length : Int) - (B.length : Int)).toNat = i - A.length - B.length := by omega
        obtain ⟨b, o, rfl, hb, hj⟩ := HC.out.spot (by omega)
        have g0 := (hbw.cell (p := ⟨b, o + (i - A.length - B.length) * 2, none⟩) hb).trans (hj (i - A.length - B.length) (by omega)).1
        rw [← hy, hyn] at g0
        clear hj hy
        go_wp2_with fail
        clear g0
        go_loopg [10] acc.length (fun gg s10 w5 => ∃ k : Nat, k ≤ acc.length ∧ acc.length - k ≤ gg ∧ s10 = .int .i64 k ∧ wr = w5 ∧ Aside (∀ j, j < k → ltS (acc.getD j ByteArray.empty) nm = true))
        case atStart => exact ⟨0, by omega, by omega, rfl, rfl, fun j hj => absurd hj (Nat.not_lt_zero _)⟩
        case round =>
          obtain ⟨k, hk, hgk, rfl, hww, KA⟩ := hrel
          subst hww
          have hk0 : (0 : Int) ≤ (k : Int) := Int.natCast_nonneg _
          by_cases hkl : k < acc.length
          · have hklz : (k : Int) < (acc.length : Int) := by omega
            have hkne : ((k : Int) == (acc.length : Int)) = false := by simp; omega
            obtain ⟨b7, o7, rfl, hb7, hj7⟩ := SA.out.spot (by omega)
            have k0 := hj7 k hkl
            clear hj7
            generalize hz : acc.getD k ByteArray.empty = z at k0
            have Z := Lib.hid hz
            clear hz
            cases hlz : ltS z nm with
            | true =>
              have hb1 : Op.bytesLess z.toList nm.toList = true := hlz
              have KZ := Lib.hid hlz
              clear hlz
              go_wp2
              go_roundg (acc.length - (k + 1))
              case measure => omega
              case rel =>
                refine ⟨k + 1, by omega, by omega, by go_num, rfl, (show Aside _ from fun j hj => ?_)⟩
                by_cases e : j = k
                · subst e; rw [Z.out]; exact KZ.out
                · exact KA.out j (by omega)
            | false =>
              have hb1 : Op.bytesLess z.toList nm.toList = false := hlz
              by_cases hzn : z = nm
              · have hb2 : (z.toList == nm.toList) = true := by rw [beq_str]; simpa using hzn
                have HI := Lib.hid (ins_there (s := nm) hkl (by rw [Z.out]; exact hzn))
                clear hlz hzn
                go_wp2_with fail
                go_roundg (A.length + B.length + C.length - (i + 1))
                case measure => omega
                case rel => exact ⟨i + 1, by omega, by omega, by go_num, (show NInv _ _ _ _ from by rw [HACC1.out, HSUC.out, HI.out]; exact I.out)⟩
              · have hb2 : (z.toList == nm.toList) = false := by rw [beq_str]; simpa using hzn
                have HI := Lib.hid (ins_new (s := nm) ASC.out hk KA.out (fun _ => ⟨by rw [Z.out]; exact hlz, by rw [Z.out]; exact hzn⟩))
                clear hlz hzn
                have hck : ¬ c7 = k := by omega
                have hkc : (k : Int) ≤ (c7 : Int) := by omega
                have hkl2 : (k : Int) ≤ (acc.length : Int) := by omega
                have hlc2 : (acc.length : Int) ≤ (c7 : Int) := by omega
                go_wp2_with fail
                go_region_held3 (fun _ => True)
                  (trivial)
                  (first
                    | (refine step_append_strs (by rfl) (.tmp 84) (.tmp 87) (by rfl) wr.heap.size (.slice (some ⟨wr.heap.size, 0, none⟩) 0 0) 0 [] (by simp [Act.eval]) ((own_empty wr wr.heap.size _ 9 (Nat.le_refl _) rfl).drew) wr.heap.size (.slice (some ⟨b7, o7, none⟩) k c7) (acc.take k) (by simp [Act.eval]) ((SA.out.cut hk).alloc (Nat.le_refl _) _).drew (by simp; omega) (by first | omega | (simp; done) | (simp; omega)) ?_; intro x1 y1 hown1 hg1; have hB1 : Below wr.heap.size wr y1 := (((Below.refl _ _).alloc (Nat.le_refl _) _).drew).grown hg1 (by first | omega | (simp; done) | (simp; omega)) (fun g hg => by simp [Value.ownBlock] at hg; omega); have hs1 := hB1.size; have hq : y1.heap.size = y1.heap.size := rfl)
                    | (refine step_append_strs (by rfl) (.tmp 84) (.tmp 87) (by rfl) wr.heap.size (.slice (some ⟨wr.heap.size, 0, none⟩) 0 0) 0 [] (by simp [Act.eval]) (((own_empty wr wr.heap.size _ 9 (Nat.le_refl _) rfl).alloc _).drew) wr.heap.size (.slice (some ⟨b7, o7, none⟩) k c7) (acc.take k) (by simp [Act.eval]) (((SA.out.cut hk).alloc (Nat.le_refl _) _).alloc (by first | omega | (simp; done) | (simp; omega)) _).drew (by simp; omega) (by first | omega | (simp; done) | (simp; omega)) ?_; intro x1 y1 hown1 hg1; have hB1 : Below wr.heap.size wr y1 := ((((Below.refl _ _).alloc (Nat.le_refl _) _).alloc (by first | omega | (simp; done) | (simp; omega)) _).drew).grown hg1 (by first | omega | (simp; done) | (simp; omega)) (fun g hg => by simp [Value.ownBlock] at hg; omega); have hs1 := hB1.size; have hq : y1.cell? ⟨wr.heap.size + 1, 0, none⟩ = some (.string nm) := cell_grown hg1 (show World.cell? ((wr.alloc (.cells #[] 9)).alloc (.cells #[.string nm] 9)) ⟨wr.heap.size + 1, 0, none⟩ = _ from by simp) (by simp [Value.ownBlock]))
                    | (refine step_append_strs (by rfl) (.tmp 84) (.tmp 87) (by rfl) wr.heap.size (.slice (some ⟨wr.heap.size + 1, 0, none⟩) 0 0) 0 [] (by simp [Act.eval]) ((own_empty (wr.alloc (.cells #[.string nm] 9)) wr.heap.size _ 9 (by first | omega | (simp; done) | (simp; omega)) (by simp)).drew) wr.heap.size (.slice (some ⟨b7, o7, none⟩) k c7) (acc.take k) (by simp [Act.eval]) (((SA.out.cut hk).alloc (Nat.le_refl _) _).alloc (by first | omega | (simp; done) | (simp; omega)) _).drew (by simp; omega) (by first | omega | (simp; done) | (simp; omega)) ?_; intro x1 y1 hown1 hg1; have hB1 : Below wr.heap.size wr y1 := ((((Below.refl _ _).alloc (Nat.le_refl _) _).alloc (by first | omega | (simp; done) | (simp; omega)) _).drew).grown hg1 (by first | omega | (simp; done) | (simp; omega)) (fun g hg => by simp [Value.ownBlock] at hg; omega); have hs1 := hB1.size; have hq : y1.cell? ⟨wr.heap.size, 0, none⟩ = some (.string nm) := cell_grown hg1 (show World.cell? ((wr.alloc (.cells #[.string nm] 9)).alloc (.cells #[] 9)) ⟨wr.heap.size, 0, none⟩ = _ from by simp) (by simp [Value.ownBlock]))
                    | (refine step_append_strs (by rfl) (.tmp 88) (.tmp 90) (by rfl) wr.heap.size x1 _ _ (by simp [Act.eval]) (hown1.alloc _) _ (.slice (some ⟨y1.heap.size, 0, none⟩) 1 1) [nm] (by simp [Act.eval]) (strs_one y1 _ rfl nm hnf _) (by simp; omega) (by first | omega | (simp; done) | (simp; omega)) ?_; intro x2 y2 hown2 hg2; have hB2 : Below wr.heap.size wr y2 := (hB1.alloc hs1 _).grown hg2 (by first | omega | (simp; done) | (simp; omega)) (fun g hg => (hown1.lt g hg).1); have hs2 := hB2.size)
                    | (refine step_append_strs (by rfl) (.tmp 88) (.tmp 90) (by rfl) wr.heap.size x1 _ _ (by simp [Act.eval]) hown1 _ (.slice (some ⟨wr.heap.size + 1, 0, none⟩) 1 1) [nm] (by simp [Act.eval]) (strs_cell (B := wr.heap.size + 2) hq (by omega) hnf) (by simp; omega) (by first | omega | (simp; done) | (simp; omega)) ?_; intro x2 y2 hown2 hg2; have hB2 : Below wr.heap.size wr y2 := (hB1).grown hg2 (by first | omega | (simp; done) | (simp; omega)) (fun g hg => (hown1.lt g hg).1); have hs2 := hB2.size)
                    | (refine step_append_strs (by rfl) (.tmp 88) (.tmp 90) (by rfl) wr.heap.size x1 _ _ (by simp [Act.eval]) hown1 _ (.slice (some ⟨wr.heap.size, 0, none⟩) 1 1) [nm] (by simp [Act.eval]) (strs_cell (B := wr.heap.size + 2) hq (by omega) hnf) (by simp; omega) (by first | omega | (simp; done) | (simp; omega)) ?_; intro x2 y2 hown2 hg2; have hB2 : Below wr.heap.size wr y2 := (hB1).grown hg2 (by first | omega | (simp; done) | (simp; omega)) (fun g hg => (hown1.lt g hg).1); have hs2 := hB2.size)
                    | (refine step_append_strs (by rfl) (.tmp 91) (.tmp 94) (by rfl) wr.heap.size x2 _ _ (by simp [Act.eval]) hown2 wr.heap.size (.slice (some ⟨b7, o7 + k, none⟩) (acc.length - k) (c7 - k)) (acc.drop k) (by simp [Act.eval]) ((SA.out.from_ hk).below hB2) (by simp; omega) (by first | omega | (simp; done) | (simp; omega)) ?_; intro x3 y3 hown3 hg3)
                    | ((trace_state; fail)))
                all_goals
                  have hbs := I.out.B.size
                  have HO3 := Lib.hid (show y3.ownsRow w.heap.size 9 1 x3 (acc.take k ++ [nm] ++ acc.drop k).length ((acc.take k ++ [nm] ++ acc.drop k).map Value.string) from by
                    have h9 := own_le hown3 hbs
                    rw [List.nil_append, ← List.map_append, ← List.map_append, Nat.zero_add, ← List.length_append, ← List.length_append] at h9
                    exact h9)
                  have HB3 := Lib.hid (I.out.B.trans ((hB2.grown hg3 hs2 (fun g hg => (hown2.lt g hg).1)).mono hbs))
                  clear hown1 hown2 hown3 hg1 hg2 hg3 hB1 hB2
                  go_wp2
                  go_roundg (A.length + B.length + C.length - (i + 1))
                  case measure => omega
                  case rel => exact ⟨i + 1, by omega, by omega, by go_num, (show NInv _ _ _ _ from by rw [HACC1.out, HSUC.out, HI.out]; exact ⟨HB3.out, HO3.out⟩)⟩
          · obtain rfl : k = acc.length := by omega
            have HI := Lib.hid (ins_new (s := nm) ASC.out (Nat.le_refl _) KA.out (fun h => absurd h (Nat.lt_irrefl _)))
            rcases I.out.own.2 with ⟨h7, h70⟩ | ⟨g7, cap7, cur7, h7, _, _, _, _, _, _⟩
            · obtain rfl : acc = [] := List.eq_nil_of_length_eq_zero h70
              injection h7 with e1 _ e2
              subst e1 e2
              clear h70
              have HI : Hid (insU [] nm = [] ++ [nm] ++ []) := HI
              go_wp2_with fail
              go_region_held3 (fun _ => True)
                (trivial)
                (first
                  | (refine step_append_strs (by rfl) (.tmp 84) (.tmp 87) (by rfl) wr.heap.size (.slice (some ⟨wr.heap.size, 0, none⟩) 0 0) 0 [] (by simp [Act.eval]) ((own_empty wr wr.heap.size _ 9 (Nat.le_refl _) rfl).drew) wr.heap.size (.slice none 0 0) (([] : List ByteArray)) (by simp [Act.eval]) ((SA.out).alloc (Nat.le_refl _) _).drew (by first | omega | (simp; done) | (simp; omega)) (by first | omega | (simp; done) | (simp; omega)) ?_; intro x1 y1 hown1 hg1; have hB1 : Below wr.heap.size wr y1 := (((Below.refl _ _).alloc (Nat.le_refl _) _).drew).grown hg1 (by first | omega | (simp; done) | (simp; omega)) (fun g hg => by simp [Value.ownBlock] at hg; omega); have hs1 := hB1.size; have hq : y1.heap.size = y1.heap.size := rfl)
                  | (refine step_append_strs (by rfl) (.tmp 84) (.tmp 87) (by rfl) wr.heap.size (.slice (some ⟨wr.heap.size, 0, none⟩) 0 0) 0 [] (by simp [Act.eval]) (((own_empty wr wr.heap.size _ 9 (Nat.le_refl _) rfl).alloc _).drew) wr.heap.size (.slice none 0 0) (([] : List ByteArray)) (by simp [Act.eval]) (((SA.out).alloc (Nat.le_refl _) _).alloc (by first | omega | (simp; done) | (simp; omega)) _).drew (by first | omega | (simp; done) | (simp; omega)) (by first | omega | (simp; done) | (simp; omega)) ?_; intro x1 y1 hown1 hg1; have hB1 : Below wr.heap.size wr y1 := ((((Below.refl _ _).alloc (Nat.le_refl _) _).alloc (by first | omega | (simp; done) | (simp; omega)) _).drew).grown hg1 (by first | omega | (simp; done) | (simp; omega)) (fun g hg => by simp [Value.ownBlock] at hg; omega); have hs1 := hB1.size; have hq : y1.cell? ⟨wr.heap.size + 1, 0, none⟩ = some (.string nm) := cell_grown hg1 (show World.cell? ((wr.alloc (.cells #[] 9)).alloc (.cells #[.string nm] 9)) ⟨wr.heap.size + 1, 0, none⟩ = _ from by simp) (by simp [Value.ownBlock]))
                  | (refine step_append_strs (by rfl) (.tmp 84) (.tmp 87) (by rfl) wr.heap.size (.slice (some ⟨wr.heap.size + 1, 0, none⟩) 0 0) 0 [] (by simp [Act.eval]) ((own_empty (wr.alloc (.cells #[.string nm] 9)) wr.heap.size _ 9 (by first | omega | (simp; done) | (simp; omega)) (by simp)).drew) wr.heap.size (.slice none 0 0) (([] : List ByteArray)) (by simp [Act.eval]) (((SA.out).alloc (Nat.le_refl _) _).alloc (by first | omega | (simp; done) | (simp; omega)) _).drew (by first | omega | (simp; done) | (simp; omega)) (by first | omega | (simp; done) | (simp; omega)) ?_; intro x1 y1 hown1 hg1; have hB1 : Below wr.heap.size wr y1 := ((((Below.refl _ _).alloc (Nat.le_refl _) _).alloc (by first | omega | (simp; done) | (simp; omega)) _).drew).grown hg1 (by first | omega | (simp; done) | (simp; omega)) (fun g hg => by simp [Value.ownBlock] at hg; omega); have hs1 := hB1.size; have hq : y1.cell? ⟨wr.heap.size, 0, none⟩ = some (.string nm) := cell_grown hg1 (show World.cell? ((wr.alloc (.cells #[.string nm] 9)).alloc (.cells #[] 9)) ⟨wr.heap.size, 0, none⟩ = _ from by simp) (by simp [Value.ownBlock]))
                  | (refine step_append_strs (by rfl) (.tmp 88) (.tmp 90) (by rfl) wr.heap.size x1 _ _ (by simp [Act.eval]) (hown1.alloc _) _ (.slice (some ⟨y1.heap.size, 0, none⟩) 1 1) [nm] (by simp [Act.eval]) (strs_one y1 _ rfl nm hnf _) (by first | omega | (simp; done) | (simp; omega)) (by first | omega | (simp; done) | (simp; omega)) ?_; intro x2 y2 hown2 hg2; have hB2 : Below wr.heap.size wr y2 := (hB1.alloc hs1 _).grown hg2 (by first | omega | (simp; done) | (simp; omega)) (fun g hg => (hown1.lt g hg).1); have hs2 := hB2.size)
                  | (refine step_append_strs (by rfl) (.tmp 88) (.tmp 90) (by rfl) wr.heap.size x1 _ _ (by simp [Act.eval]) hown1 _ (.slice (some ⟨wr.heap.size + 1, 0, none⟩) 1 1) [nm] (by simp [Act.eval]) (strs_cell (B := wr.heap.size + 2) hq (by omega) hnf) (by first | omega | (simp; done) | (simp; omega)) (by first | omega | (simp; done) | (simp; omega)) ?_; intro x2 y2 hown2 hg2; have hB2 : Below wr.heap.size wr y2 := (hB1).grown hg2 (by first | omega | (simp; done) | (simp; omega)) (fun g hg => (hown1.lt g hg).1); have hs2 := hB2.size)
                  | (refine step_append_strs (by rfl) (.tmp 88) (.tmp 90) (by rfl) wr.heap.size x1 _ _ (by simp [Act.eval]) hown1 _ (.slice (some ⟨wr.heap.size, 0, none⟩) 1 1) [nm] (by simp [Act.eval]) (strs_cell (B := wr.heap.size + 2) hq (by omega) hnf) (by first | omega | (simp; done) | (simp; omega)) (by first | omega | (simp; done) | (simp; omega)) ?_; intro x2 y2 hown2 hg2; have hB2 : Below wr.heap.size wr y2 := (hB1).grown hg2 (by first | omega | (simp; done) | (simp; omega)) (fun g hg => (hown1.lt g hg).1); have hs2 := hB2.size)
                  | (refine step_append_strs (by rfl) (.tmp 91) (.tmp 94) (by rfl) wr.heap.size x2 _ _ (by simp [Act.eval]) hown2 wr.heap.size (.slice none 0 0) (([] : List ByteArray)) (by simp [Act.eval]) (Strs.empty _ _ _ _) (by first | omega | (simp; done) | (simp; omega)) (by first | omega | (simp; done) | (simp; omega)) ?_; intro x3 y3 hown3 hg3)
                  | ((trace_state; fail)))
              all_goals
                have hbs := I.out.B.size
                have HO3 := Lib.hid (show y3.ownsRow w.heap.size 9 1 x3 (([] : List ByteArray) ++ [nm] ++ ([] : List ByteArray)).length ((([] : List ByteArray) ++ [nm] ++ ([] : List ByteArray)).map Value.string) from by
                  have h9 := own_le hown3 hbs
                  rw [List.nil_append, ← List.map_append, ← List.map_append, Nat.zero_add, ← List.length_append, ← List.length_append] at h9
                  exact h9)
                have HB3 := Lib.hid (I.out.B.trans ((hB2.grown hg3 hs2 (fun g hg => (hown2.lt g hg).1)).mono hbs))
                clear hown1 hown2 hown3 hg1 hg2 hg3 hB1 hB2
                go_wp2
                go_roundg (A.length + B.length + C.length - (i + 1))
                case measure => omega
                case rel => exact ⟨i + 1, by omega, by omega, by go_num, (show NInv _ _ _ _ from by rw [HACC1.out, HSUC.out, HI.out]; exact ⟨HB3.out, HO3.out⟩)⟩
            · injection h7 with e1 _ e2
              subst e1 e2
              have hklz : decide ((acc.length : Int) < (acc.length : Int)) = false := by simp
              have hkne : ((acc.length : Int) == (acc.length : Int)) = true := by simp
              have hlc2 : (acc.length : Int) ≤ (c7 : Int) := by omega
              by_cases hck : c7 = acc.length
              · subst hck
                go_wp2_with fail
                go_region_held3 (fun _ => True)
                  (trivial)
                  (first
                    | (refine step_append_strs (by rfl) (.tmp 84) (.tmp 87) (by rfl) wr.heap.size (.slice (some ⟨wr.heap.size, 0, none⟩) 0 0) 0 [] (by simp [Act.eval]) ((own_empty wr wr.heap.size _ 9 (Nat.le_refl _) rfl).drew) wr.heap.size (.slice (some ⟨g7, 0, none⟩) acc.length acc.length) (acc.take acc.length) (by simp [Act.eval]) ((SA.out.cut (Nat.le_refl _)).alloc (Nat.le_refl _) _).drew (by simp; omega) (by first | omega | (simp; done) | (simp; omega)) ?_; intro x1 y1 hown1 hg1; have hB1 : Below wr.heap.size wr y1 := (((Below.refl _ _).alloc (Nat.le_refl _) _).drew).grown hg1 (by first | omega | (simp; done) | (simp; omega)) (fun g hg => by simp [Value.ownBlock] at hg; omega); have hs1 := hB1.size; have hq : y1.heap.size = y1.heap.size := rfl)
                    | (refine step_append_strs (by rfl) (.tmp 84) (.tmp 87) (by rfl) wr.heap.size (.slice (some ⟨wr.heap.size, 0, none⟩) 0 0) 0 [] (by simp [Act.eval]) (((own_empty wr wr.heap.size _ 9 (Nat.le_refl _) rfl).alloc _).drew) wr.heap.size (.slice (some ⟨g7, 0, none⟩) acc.length acc.length) (acc.take acc.length) (by simp [Act.eval]) (((SA.out.cut (Nat.le_refl _)).alloc (Nat.le_refl _) _).alloc (by first | omega | (simp; done) | (simp; omega)) _).drew (by simp; omega) (by first | omega | (simp; done) | (simp; omega)) ?_; intro x1 y1 hown1 hg1; have hB1 : Below wr.heap.size wr y1 := ((((Below.refl _ _).alloc (Nat.le_refl _) _).alloc (by first | omega | (simp; done) | (simp; omega)) _).drew).grown hg1 (by first | omega | (simp; done) | (simp; omega)) (fun g hg => by simp [Value.ownBlock] at hg; omega); have hs1 := hB1.size; have hq : y1.cell? ⟨wr.heap.size + 1, 0, none⟩ = some (.string nm) := cell_grown hg1 (show World.cell? ((wr.alloc (.cells #[] 9)).alloc (.cells #[.string nm] 9)) ⟨wr.heap.size + 1, 0, none⟩ = _ from by simp) (by simp [Value.ownBlock]))
                    | (refine step_append_strs (by rfl) (.tmp 84) (.tmp 87) (by rfl) wr.heap.size (.slice (some ⟨wr.heap.size + 1, 0, none⟩) 0 0) 0 [] (by simp [Act.eval]) ((own_empty (wr.alloc (.cells #[.string nm] 9)) wr.heap.size _ 9 (by first | omega | (simp; done) | (simp; omega)) (by simp)).drew) wr.heap.size (.slice (some ⟨g7, 0, none⟩) acc.length acc.length) (acc.take acc.length) (by simp [Act.eval]) (((SA.out.cut (Nat.le_refl _)).alloc (Nat.le_refl _) _).alloc (by first | omega | (simp; done) | (simp; omega)) _).drew (by simp; omega) (by first | omega | (simp; done) | (simp; omega)) ?_; intro x1 y1 hown1 hg1; have hB1 : Below wr.heap.size wr y1 := ((((Below.refl _ _).alloc (Nat.le_refl _) _).alloc (by first | omega | (simp; done) | (simp; omega)) _).drew).grown hg1 (by first | omega | (simp; done) | (simp; omega)) (fun g hg => by simp [Value.ownBlock] at hg; omega); have hs1 := hB1.size; have hq : y1.cell? ⟨wr.heap.size, 0, none⟩ = some (.string nm) := cell_grown hg1 (show World.cell? ((wr.alloc (.cells #[.string nm] 9)).alloc (.cells #[] 9)) ⟨wr.heap.size, 0, none⟩ = _ from by simp) (by simp [Value.ownBlock]))
                    | (refine step_append_strs (by rfl) (.tmp 88) (.tmp 90) (by rfl) wr.heap.size x1 _ _ (by simp [Act.eval]) (hown1.alloc _) _ (.slice (some ⟨y1.heap.size, 0, none⟩) 1 1) [nm] (by simp [Act.eval]) (strs_one y1 _ rfl nm hnf _) (by simp; omega) (by first | omega | (simp; done) | (simp; omega)) ?_; intro x2 y2 hown2 hg2; have hB2 : Below wr.heap.size wr y2 := (hB1.alloc hs1 _).grown hg2 (by first | omega | (simp; done) | (simp; omega)) (fun g hg => (hown1.lt g hg).1); have hs2 := hB2.size)
                    | (refine step_append_strs (by rfl) (.tmp 88) (.tmp 90) (by rfl) wr.heap.size x1 _ _ (by simp [Act.eval]) hown1 _ (.slice (some ⟨wr.heap.size + 1, 0, none⟩) 1 1) [nm] (by simp [Act.eval]) (strs_cell (B := wr.heap.size + 2) hq (by omega) hnf) (by simp; omega) (by first | omega | (simp; done) | (simp; omega)) ?_; intro x2 y2 hown2 hg2; have hB2 : Below wr.heap.size wr y2 := (hB1).grown hg2 (by first | omega | (simp; done) | (simp; omega)) (fun g hg => (hown1.lt g hg).1); have hs2 := hB2.size)
                    | (refine step_append_strs (by rfl) (.tmp 88) (.tmp 90) (by rfl) wr.heap.size x1 _ _ (by simp [Act.eval]) hown1 _ (.slice (some ⟨wr.heap.size, 0, none⟩) 1 1) [nm] (by simp [Act.eval]) (strs_cell (B := wr.heap.size + 2) hq (by omega) hnf) (by simp; omega) (by first | omega | (simp; done) | (simp; omega)) ?_; intro x2 y2 hown2 hg2; have hB2 : Below wr.heap.size wr y2 := (hB1).grown hg2 (by first | omega | (simp; done) | (simp; omega)) (fun g hg => (hown1.lt g hg).1); have hs2 := hB2.size)
                    | (refine step_append_strs (by rfl) (.tmp 91) (.tmp 94) (by rfl) wr.heap.size x2 _ _ (by simp [Act.eval]) hown2 wr.heap.size (.slice (some ⟨g7, 0, none⟩) 0 0) (acc.drop acc.length) (by simp [Act.eval]) (by rw [List.drop_length]; exact Strs.empty _ _ _ _) (by simp; omega) (by first | omega | (simp; done) | (simp; omega)) ?_; intro x3 y3 hown3 hg3)
                    | ((trace_state; fail)))
                all_goals
                  have hbs := I.out.B.size
                  have HO3 := Lib.hid (show y3.ownsRow w.heap.size 9 1 x3 (acc.take acc.length ++ [nm] ++ acc.drop acc.length).length ((acc.take acc.length ++ [nm] ++ acc.drop acc.length).map Value.string) from by
                    have h9 := own_le hown3 hbs
                    rw [List.nil_append, ← List.map_append, ← List.map_append, Nat.zero_add, ← List.length_append, ← List.length_append] at h9
                    exact h9)
                  have HB3 := Lib.hid (I.out.B.trans ((hB2.grown hg3 hs2 (fun g hg => (hown2.lt g hg).1)).mono hbs))
                  clear hown1 hown2 hown3 hg1 hg2 hg3 hB1 hB2
                  go_wp2
                  go_roundg (A.length + B.length + C.length - (i + 1))
                  case measure => omega
                  case rel => exact ⟨i + 1, by omega, by omega, by go_num, (show NInv _ _ _ _ from by rw [HACC1.out, HSUC.out, HI.out]; exact ⟨HB3.out, HO3.out⟩)⟩
              · go_wp2_with fail
                go_region_held3 (fun _ => True)
                  (trivial)
                  (first
                    | (refine step_append_strs (by rfl) (.tmp 84) (.tmp 87) (by rfl) wr.heap.size (.slice (some ⟨wr.heap.size, 0, none⟩) 0 0) 0 [] (by simp [Act.eval]) ((own_empty wr wr.heap.size _ 9 (Nat.le_refl _) rfl).drew) wr.heap.size (.slice (some ⟨g7, 0, none⟩) acc.length c7) (acc.take acc.length) (by simp [Act.eval]) ((SA.out.cut (Nat.le_refl _)).alloc (Nat.le_refl _) _).drew (by simp; omega) (by first | omega | (simp; done) | (simp; omega)) ?_; intro x1 y1 hown1 hg1; have hB1 : Below wr.heap.size wr y1 := (((Below.refl _ _).alloc (Nat.le_refl _) _).drew).grown hg1 (by first | omega | (simp; done) | (simp; omega)) (fun g hg => by simp [Value.ownBlock] at hg; omega); have hs1 := hB1.size; have hq : y1.heap.size = y1.heap.size := rfl)
                    | (refine step_append_strs (by rfl) (.tmp 84) (.tmp 87) (by rfl) wr.heap.size (.slice (some ⟨wr.heap.size, 0, none⟩) 0 0) 0 [] (by simp [Act.eval]) (((own_empty wr wr.heap.size _ 9 (Nat.le_refl _) rfl).alloc _).drew) wr.heap.size (.slice (some ⟨g7, 0, none⟩) acc.length c7) (acc.take acc.length) (by simp [Act.eval]) (((SA.out.cut (Nat.le_refl _)).alloc (Nat.le_refl _) _).alloc (by first | omega | (simp; done) | (simp; omega)) _).drew (by simp; omega) (by first | omega | (simp; done) | (simp; omega)) ?_; intro x1 y1 hown1 hg1; have hB1 : Below wr.heap.size wr y1 := ((((Below.refl _ _).alloc (Nat.le_refl _) _).alloc (by first | omega | (simp; done) | (simp; omega)) _).drew).grown hg1 (by first | omega | (simp; done) | (simp; omega)) (fun g hg => by simp [Value.ownBlock] at hg; omega); have hs1 := hB1.size; have hq : y1.cell? ⟨wr.heap.size + 1, 0, none⟩ = some (.string nm) := cell_grown hg1 (show World.cell? ((wr.alloc (.cells #[] 9)).alloc (.cells #[.string nm] 9)) ⟨wr.heap.size + 1, 0, none⟩ = _ from by simp) (by simp [Value.ownBlock]))
                    | (refine step_append_strs (by rfl) (.tmp 84) (.tmp 87) (by rfl) wr.heap.size (.slice (some ⟨wr.heap.size + 1, 0, none⟩) 0 0) 0 [] (by simp [Act.eval]) ((own_empty (wr.alloc (.cells #[.string nm] 9)) wr.heap.size _ 9 (by first | omega | (simp; done) | (simp; omega)) (by simp)).drew) wr.heap.size (.slice (some ⟨g7, 0, none⟩) acc.length c7) (acc.take acc.length) (by simp [Act.eval]) (((SA.out.cut (Nat.le_refl _)).alloc (Nat.le_refl _) _).alloc (by first | omega | (simp; done) | (simp; omega)) _).drew (by simp; omega) (by first | omega | (simp; done) | (simp; omega)) ?_; intro x1 y1 hown1 hg1; have hB1 : Below wr.heap.size wr y1 := ((((Below.refl _ _).alloc (Nat.le_refl _) _).alloc (by first | omega | (simp; done) | (simp; omega)) _).drew).grown hg1 (by first | omega | (simp; done) | (simp; omega)) (fun g hg => by simp [Value.ownBlock] at hg; omega); have hs1 := hB1.size; have hq : y1.cell? ⟨wr.heap.size, 0, none⟩ = some (.string nm) := cell_grown hg1 (show World.cell? ((wr.alloc (.cells #[.string nm] 9)).alloc (.cells #[] 9)) ⟨wr.heap.size, 0, none⟩ = _ from by simp) (by simp [Value.ownBlock]))
                    | (refine step_append_strs (by rfl) (.tmp 88) (.tmp 90) (by rfl) wr.heap.size x1 _ _ (by simp [Act.eval]) (hown1.alloc _) _ (.slice (some ⟨y1.heap.size, 0, none⟩) 1 1) [nm] (by simp [Act.eval]) (strs_one y1 _ rfl nm hnf _) (by simp; omega) (by first | omega | (simp; done) | (simp; omega)) ?_; intro x2 y2 hown2 hg2; have hB2 : Below wr.heap.size wr y2 := (hB1.alloc hs1 _).grown hg2 (by first | omega | (simp; done) | (simp; omega)) (fun g hg => (hown1.lt g hg).1); have hs2 := hB2.size)
                    | (refine step_append_strs (by rfl) (.tmp 88) (.tmp 90) (by rfl) wr.heap.size x1 _ _ (by simp [Act.eval]) hown1 _ (.slice (some ⟨wr.heap.size + 1, 0, none⟩) 1 1) [nm] (by simp [Act.eval]) (strs_cell (B := wr.heap.size + 2) hq (by omega) hnf) (by simp; omega) (by first | omega | (simp; done) | (simp; omega)) ?_; intro x2 y2 hown2 hg2; have hB2 : Below wr.heap.size wr y2 := (hB1).grown hg2 (by first | omega | (simp; done) | (simp; omega)) (fun g hg => (hown1.lt g hg).1); have hs2 := hB2.size)
                    | (refine step_append_strs (by rfl) (.tmp 88) (.tmp 90) (by rfl) wr.heap.size x1 _ _ (by simp [Act.eval]) hown1 _ (.slice (some ⟨wr.heap.size, 0, none⟩) 1 1) [nm] (by simp [Act.eval]) (strs_cell (B := wr.heap.size + 2) hq (by omega) hnf) (by simp; omega) (by first | omega | (simp; done) | (simp; omega)) ?_; intro x2 y2 hown2 hg2; have hB2 : Below wr.heap.size wr y2 := (hB1).grown hg2 (by first | omega | (simp; done) | (simp; omega)) (fun g hg => (hown1.lt g hg).1); have hs2 := hB2.size)
                    | (refine step_append_strs (by rfl) (.tmp 91) (.tmp 94) (by rfl) wr.heap.size x2 _ _ (by simp [Act.eval]) hown2 wr.heap.size (.slice (some ⟨g7, acc.length, none⟩) 0 (c7 - acc.length)) (acc.drop acc.length) (by simp [Act.eval]) (by rw [List.drop_length]; exact Strs.empty _ _ _ _) (by simp; omega) (by first | omega | (simp; done) | (simp; omega)) ?_; intro x3 y3 hown3 hg3)
                    | ((trace_state; fail)))
                all_goals
                  have hbs := I.out.B.size
                  have HO3 := Lib.hid (show y3.ownsRow w.heap.size 9 1 x3 (acc.take acc.length ++ [nm] ++ acc.drop acc.length).length ((acc.take acc.length ++ [nm] ++ acc.drop acc.length).map Value.string) from by
                    have h9 := own_le hown3 hbs
                    rw [List.nil_append, ← List.map_append, ← List.map_append, Nat.zero_add, ← List.length_append, ← List.length_append] at h9
                    exact h9)
                  have HB3 := Lib.hid (I.out.B.trans ((hB2.grown hg3 hs2 (fun g hg => (hown2.lt g hg).1)).mono hbs))
                  clear hown1 hown2 hown3 hg1 hg2 hg3 hB1 hB2
                  go_wp2
                  go_roundg (A.length + B.length + C.length - (i + 1))
                  case measure => omega
                  case rel => exact ⟨i + 1, by omega, by omega, by go_num, (show NInv _ _ _ _ from by rw [HACC1.out, HSUC.out, HI.out]; exact ⟨HB3.out, HO3.out⟩)⟩
    · have hltz : ¬ (i : Int) < (A.length : Int) + (B.length : Int) + (C.length : Int) := by omega
      obtain rfl : i = A.length + B.length + C.length := by omega
      have hnam := accK_names L
      have AF := HAF.out (A.length + B.length + C.length) (by rw [HL.out]; exact Nat.le_refl _)
      obtain ⟨_, _, alen⟩ := HACC.out (A.length + B.length + C.length) (by rw [HL.out]; exact Nat.le_refl _)
      rw [HL.out] at hnam
      have SA0 := own_strs I.out.own AF (by omega)
      rw [hnam] at SA0
      have SA := Lib.hid SA0
      clear SA0 hnam AF alen
      go_wp2
      go_ret
      exact ⟨u7, rfl, SA.out, I.out.B⟩

end Go.Proofs.Ytgbmbhcoelijfaa
