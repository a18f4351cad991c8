/- The reference's SortStrings at every list of distinct strings: the same strings in ascending order; farshelfequal.Strings at two slices of the same strings. Conditions: the slices' cells lie in memory as they read. -/
import Derived.Test.YtglaohaeaofnhaaFsFrame
import Derived.Test.YtglaohaeaofnhaaAttrNames0
import Derived.Deep.RegionHeld3
import Derived.Deep.AppendLies
import Derived.Deep.DeepAppendWide
import Derived.Deep.Quiet
namespace Go.Proofs.Ytglaohaeaofnhaa
open Go.RowKit

theorem own_le {w : World} {base base' n size : Nat} {e : TypeId} {v : Value} {xs : List Value} (h : w.ownsRow base e size v n xs) (hb : base' ≤ base) : w.ownsRow base' e size v n xs := by
  refine ⟨h.1, ?_⟩
  rcases h.2 with h0 | ⟨g, cap, cur, h1, h2, h3⟩
  · exact .inl h0
  · exact .inr ⟨g, cap, cur, h1, by omega, h3⟩
theorem own_empty (w : World) (base n : Nat) (t : TypeId) (hb : base ≤ w.heap.size) (hn : n = w.heap.size) : (w.alloc (.cells #[] t)).ownsRow base t 1 (.slice (some ⟨n, 0, none⟩) 0 0) 0 [] := by
  subst hn
  exact ⟨rfl, .inr ⟨_, 0, #[], rfl, hb, heap_alloc_new w _, Nat.le_refl _, Nat.zero_le _, rfl, rfl⟩⟩
/-- An append of a list of strings to an owned row, as a step of a region that draws its order. -/
theorem step_append_strs {w : World} {ops : Array Oper} {o : Oper} {a : Act} {K : Act → World → Prop} {Q : Exit → Act → World → Prop} {E : Prop} (hgd : o.guard = none) (s x : Operand)
    (ho : o.op = .call { callee := .builtin .append, args := #[s, x], argTypes := #[30, 30] })
    (base : Nat) (v : Value) (n : Nat) (xs : List Value) (hs : a.eval s = v) (hown : w.ownsRow base 9 1 v n xs)
    (B : Nat) (u : Value) (ys : List ByteArray) (hx : a.eval x = u) (hA : Strs w B u ys)
    (hn : n + ys.length ≤ 13194139532928) (hbase : base ≤ w.heap.size)
    (hK : ∀ v' w', w'.ownsRow base 9 1 v' (n + ys.length) (xs ++ ys.map Value.string) → w.grownBy w' v.ownBlock → K (a.put o.dst v') w') :
    if Region.wanted o (yielded ops a.tmps) = true then Oper.wp Try.prog o a w K Q else E := by
  have hw : Region.wanted o (yielded ops a.tmps) = true := by simp [Region.wanted, hgd]
  rw [if_pos hw]
  obtain ⟨i, hi, hz0, hz1, hz2⟩ := info_parts str_info
  obtain ⟨ad, c, rfl, hc, hl, hf, hcell⟩ := hA
  have h1 : ∀ y ∈ ys.map Value.string, y.oneCell' = true := fun z hz => by
    obtain ⟨x, _, rfl⟩ := List.mem_map.1 hz; rfl
  have key : ∀ g : Addr, ad = some g → (∀ j u, (ys.map Value.string)[j]? = some u → w.cell? (g.add j) = some u) → Oper.wp Try.prog o a w K Q := fun g hg hcl => by
    subst hg
    obtain ⟨v', w', hrun, r1, r2, _⟩ := run_append_own_wide (P := Try.prog) w base 30 o.type 9 i _ 1 16 Try.underlying30 hi hz0 hz1 hz2 rfl (by decide) v n xs hown g ys.length c (ys.map Value.string) (by simp) hcl h1 (by unfold maxLen; omega) (by omega) hbase
    unfold Oper.wp
    simp [execOp, ho, resolve, invoke, builtin, hs, hx, hrun, Result.andThen]
    exact hK v' w' r1 r2
  by_cases h0 : ys.length = 0
  · have he : ys = [] := List.eq_nil_of_length_eq_zero h0
    subst he
    cases ad with
    | none =>
      have hrun : (Builtin.append_ #[30, 30] o.type #[v, .slice none 0 c]).run Try.prog w = .ok v w := by
        rcases hown.2 with ⟨rfl, _⟩ | ⟨g, cap, cur, rfl, _, _, hnc, _⟩
        · simp [Builtin.append_, run_underlying Try.underlying30, sizeOf, typeInfo, hi, Builtin.lenOf, Builtin.firstCells]
        · simp [Builtin.append_, run_underlying Try.underlying30, sizeOf, typeInfo, hi, Builtin.lenOf, Builtin.firstCells, hnc, storeCells]
      unfold Oper.wp
      simp [execOp, ho, resolve, invoke, builtin, hs, hx, hrun, Result.andThen]
      exact hK v w (by simpa using hown) (World.grownBy.refl _ _)
    | some g => exact key g rfl (by intro j u hu; simp at hu)
  · obtain ⟨b, of, rfl, hB, hj⟩ := hcell (by omega)
    refine key _ rfl fun j u hu => ?_
    have hjl : j < ys.length := by
      have := (List.getElem?_eq_some_iff.1 hu).1
      simpa using this
    have e : u = .string (ys.getD j ByteArray.empty) := by
      rw [List.getElem?_map, List.getElem?_eq_getElem hjl] at hu
      rw [strD hjl]
      exact (Option.some.inj hu).symm
    have hadd : (⟨b, of, none⟩ : Addr).add j = ⟨b, of + j, none⟩ := by unfold Addr.add; split <;> simp_all
    rw [e, hadd]
    exact hj j hjl
theorem Strs.empty (w : World) (B : Nat) (a : Option Addr) (c : Nat) : Strs w B (.slice a 0 c) [] :=
  ⟨a, c, rfl, by simp, by simp, by simp, fun h => absurd h (by simp)⟩
theorem Strs.cut {w : World} {B : Nat} {a : Option Addr} {n c : Nat} {xs : List ByteArray} (h : Strs w B (.slice a n c) xs) {k : Nat} (hk : k ≤ n) : Strs w B (.slice a k c) (xs.take k) := by
  obtain ⟨a', c', hv, hc, hl, hf, hx⟩ := h
  injection hv with h1 hn h2
  subst h1 h2 hn
  have hlen : (xs.take k).length = k := by simp; omega
  refine ⟨a, c, by rw [hlen], by omega, by omega, fun e he => hf e (List.mem_of_mem_take he), fun h0 => ?_⟩
  obtain ⟨b, o, ha, hB, hj⟩ := hx (by omega)
  refine ⟨b, o, ha, hB, fun j h => ?_⟩
  have e : (xs.take k).getD j ByteArray.empty = xs.getD j ByteArray.empty := by
    rw [List.getD_eq_getElem?_getD, List.getD_eq_getElem?_getD, List.getElem?_take_of_lt (by omega)]
  rw [e]; exact hj j (by omega)
theorem Strs.from_ {w : World} {B b o n c : Nat} {xs : List ByteArray} (h : Strs w B (.slice (some ⟨b, o, none⟩) n c) xs) {k : Nat} (hk : k ≤ n) : Strs w B (.slice (some ⟨b, o + k, none⟩) (n - k) (c - k)) (xs.drop k) := by
  obtain ⟨a', c', hv, hc, hl, hf, hx⟩ := h
  injection hv with h1 hn h2
  subst h1 h2 hn
  have hlen : (xs.drop k).length = xs.length - k := by simp
  refine ⟨_, c - k, by rw [hlen], by omega, by omega, fun e he => hf e (List.mem_of_mem_drop he), fun h0 => ?_⟩
  obtain ⟨b', o', ha, hB, hj⟩ := hx (by omega)
  injection ha with ha
  injection ha with ha1 ha2
  subst ha1 ha2
  refine ⟨b, _, rfl, hB, fun j h => ?_⟩
  have e : (xs.drop k).getD j ByteArray.empty = xs.getD (k + j) ByteArray.empty := by
    rw [List.getD_eq_getElem?_getD, List.getD_eq_getElem?_getD, List.getElem?_drop]
  rw [e]
  have := hj (k + j) (by omega)
  rw [show o + k + j = o + (k + j) by omega]; exact this

theorem ins_new {l : List ByteArray} (hl : Asc l) {s : ByteArray} {k : Nat} (hk : k ≤ l.length) (h1 : ∀ j, j < k → ltS (l.getD j ByteArray.empty) s = true) (h2 : k < l.length → ltS (l.getD k ByteArray.empty) s = false ∧ l.getD k ByteArray.empty ≠ s) : insU l s = l.take k ++ [s] ++ l.drop k := by
  have hp := posU_of hl hk h1 (fun h => (h2 h).1)
  unfold insU
  rw [hp, if_neg]
  rw [hasU_iff]
  intro hm
  obtain ⟨j, hj, e⟩ := List.mem_iff_getElem.1 hm
  rw [← strD hj] at e
  by_cases hjk : j < k
  · exact ltS_ne (h1 j hjk) e
  · obtain ⟨q1, q2⟩ := h2 (by omega)
    by_cases e2 : j = k
    · subst e2; exact q2 e
    · have h3 := List.pairwise_iff_getElem.1 hl k j (by omega) hj (by omega)
      rw [← strD, ← strD, e, q1] at h3
      cases h3
theorem Strs.drew {w : World} {B : Nat} {v : Value} {xs : List ByteArray} (h : Strs w B v xs) : Strs w.drew B v xs := h
theorem strs_cell {w : World} {B g : Nat} {y : ByteArray} (hc : w.cell? ⟨g, 0, none⟩ = some (.string y)) (hg : g < B) (hy : y.size ≤ maxLen) : Strs w B (.slice (some ⟨g, 0, none⟩) 1 1) [y] := by
  refine ⟨_, _, rfl, by simp, by simp, by simpa using hy, fun _ => ⟨_, _, rfl, hg, ?_⟩⟩
  intro j hj
  match j, hj with
  | 0, _ => simpa using hc
theorem cell_grown {w w' : World} {row : Option Nat} (hg : w.grownBy w' row) {n : Nat} {u : Value} (hc : w.cell? ⟨n, 0, none⟩ = some u) (hn : some n ≠ row) : w'.cell? ⟨n, 0, none⟩ = some u := by
  have hlt : n < w.heap.size := by
    rcases Nat.lt_or_ge n w.heap.size with hlt | hge
    · exact hlt
    · unfold World.cell? at hc; rw [Array.getElem?_eq_none hge] at hc; simp at hc
  exact (World.cell?_of_block (a := ⟨n, 0, none⟩) (hg.block n hlt hn)).trans hc
theorem Strs.spot {w : World} {B n c : Nat} {a : Option Addr} {xs : List ByteArray} (h : Strs w B (.slice a n c) xs) (h0 : 0 < xs.length) : ∃ b o, a = some ⟨b, o, none⟩ ∧ b < B ∧ ∀ j, j < xs.length → w.cell? ⟨b, o + j, none⟩ = some (.string (xs.getD j ByteArray.empty)) := by
  obtain ⟨a', c', hv, _, _, _, hx⟩ := h
  injection hv with h1 _ h2
  subst h1
  exact hx h0
theorem Strs.form {w : World} {B n : Nat} {v : Value} {xs : List ByteArray} (h : Strs w B v xs) (hn : xs.length = n) : ∃ a c, v = .slice a n c ∧ n ≤ c := by
  subst hn
  obtain ⟨a, c, hv, hc, _⟩ := h
  exact ⟨a, c, hv, hc⟩
theorem Strs.none_ (w : World) (B : Nat) : Strs w B (.slice none 0 0) [] :=
  ⟨none, 0, rfl, by simp, by simp, by simp, fun h => absurd h (by simp)⟩

theorem strsSame_any (v1 v2 : Value) (xs : List ByteArray) (w : World) (B1 B2 : Nat) (h1 : Strs w B1 v1 xs) (h2 : Strs w B2 v2 xs) :
    Calls Try.prog 12 #[v1, v2] w fun e w' => e = .returned (.bool true) ∧ ∃ q, w' = w.drewN q := by
  obtain ⟨a1, c1, rfl, _, hl, _, hx1⟩ := h1
  obtain ⟨a2, c2, rfl, _, _, _, hx2⟩ := h2
  have HX1 := Lib.hid hx1
  have HX2 := Lib.hid hx2
  clear hx1 hx2
  go_enter Try.func12, Try.ntmps12
  go_wp2
  go_loopg [5] xs.length (fun gg s5 wr => ∃ k q : Nat, k ≤ xs.length ∧ xs.length - k ≤ gg ∧ s5 = .int .i64 k ∧ wr = w.drewN q)
  case atStart => exact ⟨0, 0, by omega, by omega, rfl, rfl⟩
  case round =>
    obtain ⟨k, q, hk, hg, rfl, rfl⟩ := hrel
    by_cases hlt : k < xs.length
    · have hltz : (k : Int) < (xs.length : Int) := by omega
      have hi0 : (0 : Int) ≤ (k : Int) := Int.natCast_nonneg _
      obtain ⟨b1, o1, rfl, _, hj1⟩ := HX1.out (by omega)
      obtain ⟨b2, o2, rfl, _, hj2⟩ := HX2.out (by omega)
      have g0 := hj1 k hlt
      have d0 := hj2 k hlt
      clear hj1 hj2
      generalize xs.getD k ByteArray.empty = y at *
      go_wp2_with fail
      go_quiet (fail)
      go_wp2_with fail
      go_roundg (xs.length - (k + 1))
      case measure => omega
      case rel => exact ⟨k + 1, _, by omega, by omega, by go_num, rfl⟩
    · have hltz : ¬ (k : Int) < (xs.length : Int) := by omega
      go_wp2_with fail
      go_ret
      exact ⟨rfl, _, rfl⟩


theorem cell_al {w : World} {b o : Nat} {v : Value} (h : w.cell? ⟨b, o, none⟩ = some v) (x : Obj) : (w.alloc x).cell? ⟨b, o, none⟩ = some v :=
  (((Below.refl w.heap.size w).alloc (Nat.le_refl _) x).cell (p := ⟨b, o, none⟩) (cell_lt h)).trans h
/-- What holds at the head of the outer loop. -/
structure SNv (w wr : World) (acc : List ByteArray) (v : Value) : Prop where
  B : Below w.heap.size w wr
  own : wr.ownsRow w.heap.size 9 1 v acc.length (acc.map Value.string)
theorem SNv.drewN {w wr : World} {acc : List ByteArray} {v : Value} (h : SNv w wr acc v) (q : Nat) : SNv w (wr.drewN q) acc v := ⟨below_drewN h.B q, h.own⟩
/-- An ascending list with these members. -/
def AscOf (P L : List ByteArray) : Prop := Asc P ∧ ∀ x, x ∈ P ↔ x ∈ L
theorem ascOf_ins {acc L : List ByteArray} {s : ByteArray} {k : Nat} (h : Asc acc) (hm : ∀ x, x ∈ acc ↔ x ∈ L) (hk : k ≤ acc.length) (h1 : ∀ j, j < k → ltS (acc.getD j ByteArray.empty) s = true) (h2 : k < acc.length → ltS s (acc.getD k ByteArray.empty) = true) : Asc (acc.take k ++ [s] ++ acc.drop k) ∧ ∀ x, x ∈ acc.take k ++ [s] ++ acc.drop k ↔ x ∈ L ++ [s] := by
  have hlt : ∀ a ∈ acc.take k, ltS a s = true := by
    intro a ha
    obtain ⟨j, hj, rfl⟩ := List.mem_iff_getElem.1 ha
    rw [List.length_take] at hj
    rw [List.getElem_take, ← strD (by omega)]
    exact h1 j (by omega)
  have hgt : ∀ a ∈ acc.drop k, ltS s a = true := by
    intro a ha
    obtain ⟨j, hj, rfl⟩ := List.mem_iff_getElem.1 ha
    rw [List.length_drop] at hj
    rw [List.getElem_drop]
    have h3 := h2 (by omega)
    by_cases hj0 : j = 0
    · subst hj0
      rw [← strD (by omega)]; exact h3
    · have h4 := List.pairwise_iff_getElem.1 h k (k + j) (by omega) (by omega) (by omega)
      rw [strD (by omega)] at h3
      exact ltS_trans h3 h4
  constructor
  · unfold Asc at h ⊢
    rw [List.pairwise_append, List.pairwise_append]
    refine ⟨⟨h.sublist (List.take_sublist _ _), List.pairwise_singleton _ _, fun a ha c hc => ?_⟩, h.sublist (List.drop_sublist _ _), fun a ha c hc => ?_⟩
    · obtain rfl : c = s := by simpa using hc
      exact hlt a ha
    · rcases List.mem_append.1 ha with ha | ha
      · exact ltS_trans (hlt a ha) (hgt c hc)
      · obtain rfl : a = s := by simpa using ha
        exact hgt c hc
  · intro x
    rw [List.mem_append, List.mem_append, List.mem_append, ← hm x]
    conv => rhs; lhs; rw [← List.take_append_drop k acc]
    rw [List.mem_append]
    constructor
    · rintro ((h | h) | h)
      · exact .inl (.inl h)
      · exact .inr h
      · exact .inl (.inr h)
    · rintro ((h | h) | h)
      · exact .inl (.inl h)
      · exact .inr h
      · exact .inl (.inr h)
/-- What a function leaves that returns these strings in ascending order. -/
def SortPost (L : List ByteArray) (w : World) (e : Ending) (w' : World) : Prop := ∃ v P, e = .returned v ∧ AscOf P L ∧ Strs w' w'.heap.size v P ∧ (∀ q, v.ownBlock = some q → w.heap.size ≤ q) ∧ Below w.heap.size w w'

set_option maxRecDepth 100000 in
set_option maxHeartbeats 8000000 in
theorem sortStrings_any (v : Value) (L : List ByteArray) (w : World) (h : Strs w w.heap.size v L) (hnd : L.Nodup) (hl7 : L.length ≤ 100000) :
    Calls Try.prog 26 #[v] w (SortPost L w) := by
  have HA := Lib.hid h
  have HF := Lib.hid (show ∀ x ∈ L, x.size ≤ maxLen from by obtain ⟨_, _, _, _, _, hs, _⟩ := h; exact hs)
  obtain ⟨la, lc, rfl, hlc⟩ := h.form rfl
  have HND := Lib.hid hnd
  clear h hnd
  go_enter Try.func26, Try.ntmps26
  go_wp2_with fail
  have IN := Lib.hid (show SNv w w [] (.slice none 0 0) from ⟨Below.refl _ _, ⟨rfl, .inl ⟨rfl, rfl⟩⟩⟩)
  go_loopg [3, 4, 5] L.length (fun gg s3 s4 _ wr => ∃ i : Nat, i ≤ L.length ∧ L.length - i ≤ gg ∧ s4 = .int .i64 i ∧ ∃ acc : List ByteArray, Aside (acc.length = i) ∧ Aside (Asc acc) ∧ Aside (∀ x, x ∈ acc ↔ x ∈ L.take i) ∧ Aside (SNv w wr acc s3))
  case atStart => exact ⟨0, by omega, by omega, rfl, [], rfl, (show Asc [] from List.Pairwise.nil), (show ∀ x, _ ↔ _ from fun x => by simp), IN.out⟩
  case round =>
    obtain ⟨i, hi, hg, rfl, acc, HAI, ASC, MEM, I⟩ := hrel
    clear IN
    obtain ⟨w2, rfl⟩ : ∃ w2 : World, w2 = wr := ⟨_, rfl⟩
    have AF := Lib.hid (show ∀ x ∈ acc, x.size ≤ maxLen from fun x hx => HF.out x (List.mem_of_mem_take ((MEM.out x).1 hx)))
    have hal : acc.length ≤ L.length := by have := HAI.out; omega
    by_cases hlt : i < L.length
    · have hltz : (i : Int) < (L.length : Int) := by omega
      have hi0 : (0 : Int) ≤ (i : Int) := Int.natCast_nonneg _
      obtain ⟨b, o, rfl, hb, hj⟩ := HA.out.spot (by omega)
      have g0w := hj i hlt
      have HTK := Lib.hid (show L.take (i + 1) = L.take i ++ [L.getD i ByteArray.empty] from by rw [List.take_succ_eq_append_getElem hlt, strD hlt])
      have HNEW := Lib.hid (show L.getD i ByteArray.empty ∉ acc from fun hm => by
        have h1 := (MEM.out _).1 hm
        obtain ⟨j, hj2, e⟩ := List.mem_iff_getElem.1 h1
        rw [List.length_take] at hj2
        rw [List.getElem_take, strD hlt] at e
        have h3 := HND.out
        unfold List.Nodup at h3
        exact List.pairwise_iff_getElem.1 h3 j i (by omega) hlt (by omega) e)
      have hnf : (L.getD i ByteArray.empty).size ≤ maxLen := HF.out _ (by rw [strD hlt]; exact List.getElem_mem hlt)
      clear hj
      generalize L.getD i ByteArray.empty = nm at *
      have SA0 := strs_row I.out.own AF.out (by omega)
      obtain ⟨a7, c7, rfl, hc7⟩ := SA0.form rfl
      clear SA0
      go_wp2_with fail
      go_loopg [5] acc.length (fun gg s5 w5 => ∃ k : Nat, k ≤ acc.length ∧ acc.length - k ≤ gg ∧ s5 = .int .i64 k ∧ Aside (SNv w w5 acc (.slice a7 acc.length c7)) ∧ Aside (∀ j, j < k → ltS (acc.getD j ByteArray.empty) nm = true))
      case atStart => exact ⟨0, by omega, by omega, rfl, I.out, fun j hj => absurd hj (Nat.not_lt_zero _)⟩
      case round =>
        clear I
        obtain ⟨k, hk, hgk, rfl, I, KA⟩ := hrel
        have hk0 : (0 : Int) ≤ (k : Int) := Int.natCast_nonneg _
        have g0 := (I.out.B.cell (p := ⟨b, o + i, none⟩) hb).trans g0w
        have SA := Lib.hid (strs_row I.out.own AF.out (by omega))
        by_cases hkl : k < acc.length
        · have hklz : (k : Int) < (acc.length : Int) := by omega
          obtain ⟨b7, o7, rfl, hb7, hj7⟩ := SA.out.spot (by omega)
          have k0 := hj7 k hkl
          clear hj7
          generalize hz : acc.getD k ByteArray.empty = z at k0
          have Z := Lib.hid hz
          clear hz
          have hzn : z ≠ nm := fun e => HNEW.out (by rw [← e, ← Z.out, strD hkl]; exact List.getElem_mem hkl)
          cases hlz : ltS nm z with
          | false =>
            have hle : (Op.bytesLess z.toList nm.toList || z.toList == nm.toList) = true := by rw [leqS, hlz]; rfl
            have hzt : ltS z nm = true := by
              cases h9 : ltS z nm with
              | true => rfl
              | false => exact absurd (ltS_eq h9 hlz) hzn
            have KZ := Lib.hid hzt
            clear hlz hzn hzt
            go_wp2_with fail
            go_quiet (fail)
            go_wp2_with fail
            go_roundg (acc.length - (k + 1))
            case measure => omega
            case rel =>
              refine ⟨k + 1, by omega, by omega, by go_num, I.out.drewN nq, (show Aside _ from fun j hj => ?_)⟩
              by_cases e : j = k
              · subst e; rw [Z.out]; exact KZ.out
              · exact KA.out j (by omega)
          | true =>
            have hle : (Op.bytesLess z.toList nm.toList || z.toList == nm.toList) = false := by rw [leqS, hlz]; rfl
            have HI := Lib.hid (show Asc (acc.take k ++ [nm] ++ acc.drop k) ∧ ∀ x, x ∈ acc.take k ++ [nm] ++ acc.drop k ↔ x ∈ L.take (i + 1) from by rw [HTK.out]; exact ascOf_ins ASC.out MEM.out hk KA.out (fun _ => by rw [Z.out]; exact hlz))
            clear hlz hzn
            have hck : ¬ c7 = k := by omega
            have hkc : (k : Int) ≤ (c7 : Int) := by omega
            have hkl2 : (k : Int) ≤ (acc.length : Int) := by omega
            have hlc2 : (acc.length : Int) ≤ (c7 : Int) := by omega
            go_wp2_with fail
            go_quiet (fail)
            obtain ⟨hbz, G2, I2, SA2⟩ : b < wr.heap.size ∧ Hid ((wr.drewN nq).cell? ⟨b, o + i, none⟩ = some (.string nm)) ∧ Hid (SNv w (wr.drewN nq) acc (.slice (some ⟨b7, o7, none⟩) acc.length c7)) ∧ Hid (Strs (wr.drewN nq) (wr.drewN nq).heap.size (.slice (some ⟨b7, o7, none⟩) acc.length c7) acc) := ⟨Nat.lt_of_lt_of_le hb I.out.B.size, Lib.hid g0, Lib.hid (I.out.drewN nq), Lib.hid SA.out⟩
            change b < (wr.drewN nq).heap.size at hbz
            clear I SA g0 KA k0
            generalize wr.drewN nq = wz at *
            go_wp2_with fail
            go_region_held3 (fun y => y.cell? ⟨b, o + i, none⟩ = some (.string nm))
              (first | exact kf | exact G2.out | exact cell_al kf _ | exact cell_al G2.out _ | exact cell_al (cell_al G2.out _) _ | go_keep)
              (first
                | (refine step_append_strs (by rfl) (.tmp 29) (.tmp 32) (by rfl) wz.heap.size (.slice (some ⟨wz.heap.size, 0, none⟩) 0 0) 0 [] (by simp [Act.eval]) ((own_empty wz wz.heap.size _ 9 (Nat.le_refl _) rfl).drew) wz.heap.size (.slice (some ⟨b7, o7, none⟩) k c7) (acc.take k) (by simp [Act.eval]) ((SA2.out.cut hk).alloc (Nat.le_refl _) _).drew (by first | omega | (simp; done) | (simp; omega)) (by first | omega | (simp; done) | (simp; omega)) ?_; intro x1 y1 hown1 hg1; have hB1 : Below wz.heap.size wz y1 := (((Below.refl _ _).alloc (Nat.le_refl _) _).drew).grown hg1 (by first | omega | (simp; done) | (simp; omega)) (fun g hg => by simp [Value.ownBlock] at hg; omega); have hs1 := hB1.size; have hq : y1.heap.size = y1.heap.size := rfl; have kf : y1.cell? ⟨b, o + i, none⟩ = some (.string nm) := (hB1.cell (p := ⟨b, o + i, none⟩) hbz).trans G2.out)
                | (refine step_append_strs (by rfl) (.tmp 29) (.tmp 32) (by rfl) wz.heap.size (.slice (some ⟨wz.heap.size, 0, none⟩) 0 0) 0 [] (by simp [Act.eval]) (((own_empty wz wz.heap.size _ 9 (Nat.le_refl _) rfl).alloc _).drew) wz.heap.size (.slice (some ⟨b7, o7, none⟩) k c7) (acc.take k) (by simp [Act.eval]) (((SA2.out.cut hk).alloc (Nat.le_refl _) _).alloc (by first | omega | (simp; done) | (simp; omega)) _).drew (by first | omega | (simp; done) | (simp; omega)) (by first | omega | (simp; done) | (simp; omega)) ?_; intro x1 y1 hown1 hg1; have hB1 : Below wz.heap.size wz y1 := ((((Below.refl _ _).alloc (Nat.le_refl _) _).alloc (by first | omega | (simp; done) | (simp; omega)) _).drew).grown hg1 (by first | omega | (simp; done) | (simp; omega)) (fun g hg => by simp [Value.ownBlock] at hg; omega); have hs1 := hB1.size; have hq : y1.cell? ⟨wz.heap.size + 1, 0, none⟩ = some (.string nm) := cell_grown hg1 (show World.cell? ((wz.alloc (.cells #[] 9)).alloc (.cells #[.string nm] 9)) ⟨wz.heap.size + 1, 0, none⟩ = _ from by simp) (by simp [Value.ownBlock]); have kf : y1.cell? ⟨b, o + i, none⟩ = some (.string nm) := (hB1.cell (p := ⟨b, o + i, none⟩) hbz).trans G2.out)
                | (refine step_append_strs (by rfl) (.tmp 29) (.tmp 32) (by rfl) wz.heap.size (.slice (some ⟨wz.heap.size + 1, 0, none⟩) 0 0) 0 [] (by simp [Act.eval]) ((own_empty (wz.alloc (.cells #[.string nm] 9)) wz.heap.size _ 9 (by first | omega | (simp; done) | (simp; omega)) (by simp)).drew) wz.heap.size (.slice (some ⟨b7, o7, none⟩) k c7) (acc.take k) (by simp [Act.eval]) (((SA2.out.cut hk).alloc (Nat.le_refl _) _).alloc (by first | omega | (simp; done) | (simp; omega)) _).drew (by first | omega | (simp; done) | (simp; omega)) (by first | omega | (simp; done) | (simp; omega)) ?_; intro x1 y1 hown1 hg1; have hB1 : Below wz.heap.size wz y1 := ((((Below.refl _ _).alloc (Nat.le_refl _) _).alloc (by first | omega | (simp; done) | (simp; omega)) _).drew).grown hg1 (by first | omega | (simp; done) | (simp; omega)) (fun g hg => by simp [Value.ownBlock] at hg; omega); have hs1 := hB1.size; have hq : y1.cell? ⟨wz.heap.size, 0, none⟩ = some (.string nm) := cell_grown hg1 (show World.cell? ((wz.alloc (.cells #[.string nm] 9)).alloc (.cells #[] 9)) ⟨wz.heap.size, 0, none⟩ = _ from by simp) (by simp [Value.ownBlock]); have kf : y1.cell? ⟨b, o + i, none⟩ = some (.string nm) := (hB1.cell (p := ⟨b, o + i, none⟩) hbz).trans G2.out)
                | (refine step_append_strs (by rfl) (.tmp 33) (.tmp 38) (by rfl) wz.heap.size x1 _ _ (by simp [Act.eval]) (hown1.alloc _) _ (.slice (some ⟨y1.heap.size, 0, none⟩) 1 1) [nm] (by simp [Act.eval]) (strs_one y1 _ rfl nm hnf _) (by first | omega | (simp; done) | (simp; omega)) (by first | omega | (simp; done) | (simp; omega)) ?_; intro x2 y2 hown2 hg2; have hB2 : Below wz.heap.size wz y2 := (hB1.alloc hs1 _).grown hg2 (by first | omega | (simp; done) | (simp; omega)) (fun g hg => (hown1.lt g hg).1); have hs2 := hB2.size; have kf : y2.cell? ⟨b, o + i, none⟩ = some (.string nm) := (hB2.cell (p := ⟨b, o + i, none⟩) hbz).trans G2.out)
                | (refine step_append_strs (by rfl) (.tmp 33) (.tmp 38) (by rfl) wz.heap.size x1 _ _ (by simp [Act.eval]) hown1 _ (.slice (some ⟨wz.heap.size + 1, 0, none⟩) 1 1) [nm] (by simp [Act.eval]) (strs_cell (B := wz.heap.size + 2) hq (by omega) hnf) (by first | omega | (simp; done) | (simp; omega)) (by first | omega | (simp; done) | (simp; omega)) ?_; intro x2 y2 hown2 hg2; have hB2 : Below wz.heap.size wz y2 := (hB1).grown hg2 (by first | omega | (simp; done) | (simp; omega)) (fun g hg => (hown1.lt g hg).1); have hs2 := hB2.size; have kf : y2.cell? ⟨b, o + i, none⟩ = some (.string nm) := (hB2.cell (p := ⟨b, o + i, none⟩) hbz).trans G2.out)
                | (refine step_append_strs (by rfl) (.tmp 33) (.tmp 38) (by rfl) wz.heap.size x1 _ _ (by simp [Act.eval]) hown1 _ (.slice (some ⟨wz.heap.size, 0, none⟩) 1 1) [nm] (by simp [Act.eval]) (strs_cell (B := wz.heap.size + 2) hq (by omega) hnf) (by first | omega | (simp; done) | (simp; omega)) (by first | omega | (simp; done) | (simp; omega)) ?_; intro x2 y2 hown2 hg2; have hB2 : Below wz.heap.size wz y2 := (hB1).grown hg2 (by first | omega | (simp; done) | (simp; omega)) (fun g hg => (hown1.lt g hg).1); have hs2 := hB2.size; have kf : y2.cell? ⟨b, o + i, none⟩ = some (.string nm) := (hB2.cell (p := ⟨b, o + i, none⟩) hbz).trans G2.out)
                | (refine step_append_strs (by rfl) (.tmp 39) (.tmp 42) (by rfl) wz.heap.size x2 _ _ (by simp [Act.eval]) hown2 wz.heap.size (.slice (some ⟨b7, o7 + k, none⟩) (acc.length - k) (c7 - k)) (acc.drop k) (by simp [Act.eval]) ((SA2.out.from_ hk).below hB2) (by first | omega | (simp; done) | (simp; omega)) (by first | omega | (simp; done) | (simp; omega)) ?_; intro x3 y3 hown3 hg3; have hB9 : Below wz.heap.size wz y3 := hB2.grown hg3 hs2 (fun g hg => (hown2.lt g hg).1); have kf : y3.cell? ⟨b, o + i, none⟩ = some (.string nm) := (hB9.cell (p := ⟨b, o + i, none⟩) hbz).trans G2.out)
                | ((trace_state; fail)))
            all_goals
              have hbs := I2.out.B.size
              have HO3 := Lib.hid (show y3.ownsRow w.heap.size 9 1 x3 (acc.take k ++ [nm] ++ acc.drop k).length ((acc.take k ++ [nm] ++ acc.drop k).map Value.string) from by
                have h9 := own_le hown3 hbs
                rw [List.nil_append, ← List.map_append, ← List.map_append, Nat.zero_add, ← List.length_append, ← List.length_append] at h9
                exact h9)
              have HB3 := Lib.hid (I2.out.B.trans (hB9.mono hbs))
              clear hown1 hown2 hown3 hg1 hg2 hg3 hB1 hB2 hB9 kf
              go_wp2
              go_roundg (L.length - (i + 1))
              case measure => omega
              case rel => exact ⟨i + 1, by omega, by omega, by go_num, _, (show Aside _ from by have h9 := HAI.out; show List.length _ = _; simp only [List.length_append, List.length_take, List.length_drop, List.length_singleton] at h9 ⊢; omega), HI.out.1, HI.out.2, ⟨HB3.out, HO3.out⟩⟩
        · obtain rfl : k = acc.length := by omega
          have HI0 := Lib.hid (show Asc (acc.take acc.length ++ [nm] ++ acc.drop acc.length) ∧ ∀ x, x ∈ acc.take acc.length ++ [nm] ++ acc.drop acc.length ↔ x ∈ L.take (i + 1) from by rw [HTK.out]; exact ascOf_ins ASC.out MEM.out hk KA.out (fun h => absurd h (Nat.lt_irrefl _)))
          rcases I.out.own.2 with ⟨h7, h70⟩ | ⟨g7, cap7, cur7, h7, _, _, _, _, _, _⟩
          · obtain rfl : acc = [] := List.eq_nil_of_length_eq_zero h70
            injection h7 with e1 _ e2
            subst e1 e2
            clear h70
            have HI : Hid (Asc (([] : List ByteArray) ++ [nm] ++ ([] : List ByteArray)) ∧ ∀ x, x ∈ ([] : List ByteArray) ++ [nm] ++ ([] : List ByteArray) ↔ x ∈ L.take (i + 1)) := HI0
            go_wp2_with fail
            go_quiet (fail)
            obtain ⟨hbz, G2, I2, SA2⟩ : b < wr.heap.size ∧ Hid ((wr.drewN nq).cell? ⟨b, o + i, none⟩ = some (.string nm)) ∧ Hid (SNv w (wr.drewN nq) [] (.slice none 0 0)) ∧ Hid (Strs (wr.drewN nq) (wr.drewN nq).heap.size (.slice none 0 0) []) := ⟨Nat.lt_of_lt_of_le hb I.out.B.size, Lib.hid g0, Lib.hid (I.out.drewN nq), Lib.hid SA.out⟩
            change b < (wr.drewN nq).heap.size at hbz
            clear I SA g0 KA
            generalize wr.drewN nq = wz at *
            go_wp2_with fail
            go_region_held3 (fun y => y.cell? ⟨b, o + i, none⟩ = some (.string nm))
              (first | exact kf | exact G2.out | exact cell_al kf _ | exact cell_al G2.out _ | exact cell_al (cell_al G2.out _) _ | go_keep)
              (first
                | (refine step_append_strs (by rfl) (.tmp 29) (.tmp 32) (by rfl) wz.heap.size (.slice (some ⟨wz.heap.size, 0, none⟩) 0 0) 0 [] (by simp [Act.eval]) ((own_empty wz wz.heap.size _ 9 (Nat.le_refl _) rfl).drew) wz.heap.size (.slice none 0 0) (([] : List ByteArray)) (by simp [Act.eval]) ((SA2.out).alloc (Nat.le_refl _) _).drew (by first | omega | (simp; done) | (simp; omega)) (by first | omega | (simp; done) | (simp; omega)) ?_; intro x1 y1 hown1 hg1; have hB1 : Below wz.heap.size wz y1 := (((Below.refl _ _).alloc (Nat.le_refl _) _).drew).grown hg1 (by first | omega | (simp; done) | (simp; omega)) (fun g hg => by simp [Value.ownBlock] at hg; omega); have hs1 := hB1.size; have hq : y1.heap.size = y1.heap.size := rfl; have kf : y1.cell? ⟨b, o + i, none⟩ = some (.string nm) := (hB1.cell (p := ⟨b, o + i, none⟩) hbz).trans G2.out)
                | (refine step_append_strs (by rfl) (.tmp 29) (.tmp 32) (by rfl) wz.heap.size (.slice (some ⟨wz.heap.size, 0, none⟩) 0 0) 0 [] (by simp [Act.eval]) (((own_empty wz wz.heap.size _ 9 (Nat.le_refl _) rfl).alloc _).drew) wz.heap.size (.slice none 0 0) (([] : List ByteArray)) (by simp [Act.eval]) (((SA2.out).alloc (Nat.le_refl _) _).alloc (by first | omega | (simp; done) | (simp; omega)) _).drew (by first | omega | (simp; done) | (simp; omega)) (by first | omega | (simp; done) | (simp; omega)) ?_; intro x1 y1 hown1 hg1; have hB1 : Below wz.heap.size wz y1 := ((((Below.refl _ _).alloc (Nat.le_refl _) _).alloc (by first | omega | (simp; done) | (simp; omega)) _).drew).grown hg1 (by first | omega | (simp; done) | (simp; omega)) (fun g hg => by simp [Value.ownBlock] at hg; omega); have hs1 := hB1.size; have hq : y1.cell? ⟨wz.heap.size + 1, 0, none⟩ = some (.string nm) := cell_grown hg1 (show World.cell? ((wz.alloc (.cells #[] 9)).alloc (.cells #[.string nm] 9)) ⟨wz.heap.size + 1, 0, none⟩ = _ from by simp) (by simp [Value.ownBlock]); have kf : y1.cell? ⟨b, o + i, none⟩ = some (.string nm) := (hB1.cell (p := ⟨b, o + i, none⟩) hbz).trans G2.out)
                | (refine step_append_strs (by rfl) (.tmp 29) (.tmp 32) (by rfl) wz.heap.size (.slice (some ⟨wz.heap.size + 1, 0, none⟩) 0 0) 0 [] (by simp [Act.eval]) ((own_empty (wz.alloc (.cells #[.string nm] 9)) wz.heap.size _ 9 (by first | omega | (simp; done) | (simp; omega)) (by simp)).drew) wz.heap.size (.slice none 0 0) (([] : List ByteArray)) (by simp [Act.eval]) (((SA2.out).alloc (Nat.le_refl _) _).alloc (by first | omega | (simp; done) | (simp; omega)) _).drew (by first | omega | (simp; done) | (simp; omega)) (by first | omega | (simp; done) | (simp; omega)) ?_; intro x1 y1 hown1 hg1; have hB1 : Below wz.heap.size wz y1 := ((((Below.refl _ _).alloc (Nat.le_refl _) _).alloc (by first | omega | (simp; done) | (simp; omega)) _).drew).grown hg1 (by first | omega | (simp; done) | (simp; omega)) (fun g hg => by simp [Value.ownBlock] at hg; omega); have hs1 := hB1.size; have hq : y1.cell? ⟨wz.heap.size, 0, none⟩ = some (.string nm) := cell_grown hg1 (show World.cell? ((wz.alloc (.cells #[.string nm] 9)).alloc (.cells #[] 9)) ⟨wz.heap.size, 0, none⟩ = _ from by simp) (by simp [Value.ownBlock]); have kf : y1.cell? ⟨b, o + i, none⟩ = some (.string nm) := (hB1.cell (p := ⟨b, o + i, none⟩) hbz).trans G2.out)
                | (refine step_append_strs (by rfl) (.tmp 33) (.tmp 38) (by rfl) wz.heap.size x1 _ _ (by simp [Act.eval]) (hown1.alloc _) _ (.slice (some ⟨y1.heap.size, 0, none⟩) 1 1) [nm] (by simp [Act.eval]) (strs_one y1 _ rfl nm hnf _) (by first | omega | (simp; done) | (simp; omega)) (by first | omega | (simp; done) | (simp; omega)) ?_; intro x2 y2 hown2 hg2; have hB2 : Below wz.heap.size wz y2 := (hB1.alloc hs1 _).grown hg2 (by first | omega | (simp; done) | (simp; omega)) (fun g hg => (hown1.lt g hg).1); have hs2 := hB2.size; have kf : y2.cell? ⟨b, o + i, none⟩ = some (.string nm) := (hB2.cell (p := ⟨b, o + i, none⟩) hbz).trans G2.out)
                | (refine step_append_strs (by rfl) (.tmp 33) (.tmp 38) (by rfl) wz.heap.size x1 _ _ (by simp [Act.eval]) hown1 _ (.slice (some ⟨wz.heap.size + 1, 0, none⟩) 1 1) [nm] (by simp [Act.eval]) (strs_cell (B := wz.heap.size + 2) hq (by omega) hnf) (by first | omega | (simp; done) | (simp; omega)) (by first | omega | (simp; done) | (simp; omega)) ?_; intro x2 y2 hown2 hg2; have hB2 : Below wz.heap.size wz y2 := (hB1).grown hg2 (by first | omega | (simp; done) | (simp; omega)) (fun g hg => (hown1.lt g hg).1); have hs2 := hB2.size; have kf : y2.cell? ⟨b, o + i, none⟩ = some (.string nm) := (hB2.cell (p := ⟨b, o + i, none⟩) hbz).trans G2.out)
                | (refine step_append_strs (by rfl) (.tmp 33) (.tmp 38) (by rfl) wz.heap.size x1 _ _ (by simp [Act.eval]) hown1 _ (.slice (some ⟨wz.heap.size, 0, none⟩) 1 1) [nm] (by simp [Act.eval]) (strs_cell (B := wz.heap.size + 2) hq (by omega) hnf) (by first | omega | (simp; done) | (simp; omega)) (by first | omega | (simp; done) | (simp; omega)) ?_; intro x2 y2 hown2 hg2; have hB2 : Below wz.heap.size wz y2 := (hB1).grown hg2 (by first | omega | (simp; done) | (simp; omega)) (fun g hg => (hown1.lt g hg).1); have hs2 := hB2.size; have kf : y2.cell? ⟨b, o + i, none⟩ = some (.string nm) := (hB2.cell (p := ⟨b, o + i, none⟩) hbz).trans G2.out)
                | (refine step_append_strs (by rfl) (.tmp 39) (.tmp 42) (by rfl) wz.heap.size x2 _ _ (by simp [Act.eval]) hown2 wz.heap.size (.slice none 0 0) (([] : List ByteArray)) (by simp [Act.eval]) (Strs.empty _ _ _ _) (by first | omega | (simp; done) | (simp; omega)) (by first | omega | (simp; done) | (simp; omega)) ?_; intro x3 y3 hown3 hg3; have hB9 : Below wz.heap.size wz y3 := hB2.grown hg3 hs2 (fun g hg => (hown2.lt g hg).1); have kf : y3.cell? ⟨b, o + i, none⟩ = some (.string nm) := (hB9.cell (p := ⟨b, o + i, none⟩) hbz).trans G2.out)
                | ((trace_state; fail)))
            all_goals
              have hbs := I2.out.B.size
              have HO3 := Lib.hid (show y3.ownsRow w.heap.size 9 1 x3 (([] : List ByteArray) ++ [nm] ++ ([] : List ByteArray)).length ((([] : List ByteArray) ++ [nm] ++ ([] : List ByteArray)).map Value.string) from by
                have h9 := own_le hown3 hbs
                rw [List.nil_append, ← List.map_append, ← List.map_append, Nat.zero_add, ← List.length_append, ← List.length_append] at h9
                exact h9)
              have HB3 := Lib.hid (I2.out.B.trans (hB9.mono hbs))
              clear hown1 hown2 hown3 hg1 hg2 hg3 hB1 hB2 hB9 kf
              go_wp2
              go_roundg (L.length - (i + 1))
              case measure => omega
              case rel => exact ⟨i + 1, by omega, by omega, by go_num, _, (show Aside _ from by have h9 := HAI.out; show List.length _ = _; simp only [List.length_append, List.length_singleton, List.length_nil] at h9 ⊢; omega), HI.out.1, HI.out.2, ⟨HB3.out, HO3.out⟩⟩
          · injection h7 with e1 _ e2
            subst e1 e2
            have HI := HI0
            clear HI0
            have hlc2 : (acc.length : Int) ≤ (c7 : Int) := by omega
            go_wp2_with fail
            go_quiet (fail)
            obtain ⟨hbz, G2, I2, SA2⟩ : b < wr.heap.size ∧ Hid ((wr.drewN nq).cell? ⟨b, o + i, none⟩ = some (.string nm)) ∧ Hid (SNv w (wr.drewN nq) acc (.slice (some ⟨g7, 0, none⟩) acc.length c7)) ∧ Hid (Strs (wr.drewN nq) (wr.drewN nq).heap.size (.slice (some ⟨g7, 0, none⟩) acc.length c7) acc) := ⟨Nat.lt_of_lt_of_le hb I.out.B.size, Lib.hid g0, Lib.hid (I.out.drewN nq), Lib.hid SA.out⟩
            change b < (wr.drewN nq).heap.size at hbz
            clear I SA g0 KA
            generalize wr.drewN nq = wz at *
            by_cases hck : c7 = acc.length
            · subst hck
              go_wp2_with fail
              go_region_held3 (fun y => y.cell? ⟨b, o + i, none⟩ = some (.string nm))
                (first | exact kf | exact G2.out | exact cell_al kf _ | exact cell_al G2.out _ | exact cell_al (cell_al G2.out _) _ | go_keep)
                (first
                  | (refine step_append_strs (by rfl) (.tmp 29) (.tmp 32) (by rfl) wz.heap.size (.slice (some ⟨wz.heap.size, 0, none⟩) 0 0) 0 [] (by simp [Act.eval]) ((own_empty wz wz.heap.size _ 9 (Nat.le_refl _) rfl).drew) wz.heap.size (.slice (some ⟨g7, 0, none⟩) acc.length acc.length) (acc.take acc.length) (by simp [Act.eval]) ((SA2.out.cut (Nat.le_refl _)).alloc (Nat.le_refl _) _).drew (by first | omega | (simp; done) | (simp; omega)) (by first | omega | (simp; done) | (simp; omega)) ?_; intro x1 y1 hown1 hg1; have hB1 : Below wz.heap.size wz y1 := (((Below.refl _ _).alloc (Nat.le_refl _) _).drew).grown hg1 (by first | omega | (simp; done) | (simp; omega)) (fun g hg => by simp [Value.ownBlock] at hg; omega); have hs1 := hB1.size; have hq : y1.heap.size = y1.heap.size := rfl; have kf : y1.cell? ⟨b, o + i, none⟩ = some (.string nm) := (hB1.cell (p := ⟨b, o + i, none⟩) hbz).trans G2.out)
                  | (refine step_append_strs (by rfl) (.tmp 29) (.tmp 32) (by rfl) wz.heap.size (.slice (some ⟨wz.heap.size, 0, none⟩) 0 0) 0 [] (by simp [Act.eval]) (((own_empty wz wz.heap.size _ 9 (Nat.le_refl _) rfl).alloc _).drew) wz.heap.size (.slice (some ⟨g7, 0, none⟩) acc.length acc.length) (acc.take acc.length) (by simp [Act.eval]) (((SA2.out.cut (Nat.le_refl _)).alloc (Nat.le_refl _) _).alloc (by first | omega | (simp; done) | (simp; omega)) _).drew (by first | omega | (simp; done) | (simp; omega)) (by first | omega | (simp; done) | (simp; omega)) ?_; intro x1 y1 hown1 hg1; have hB1 : Below wz.heap.size wz y1 := ((((Below.refl _ _).alloc (Nat.le_refl _) _).alloc (by first | omega | (simp; done) | (simp; omega)) _).drew).grown hg1 (by first | omega | (simp; done) | (simp; omega)) (fun g hg => by simp [Value.ownBlock] at hg; omega); have hs1 := hB1.size; have hq : y1.cell? ⟨wz.heap.size + 1, 0, none⟩ = some (.string nm) := cell_grown hg1 (show World.cell? ((wz.alloc (.cells #[] 9)).alloc (.cells #[.string nm] 9)) ⟨wz.heap.size + 1, 0, none⟩ = _ from by simp) (by simp [Value.ownBlock]); have kf : y1.cell? ⟨b, o + i, none⟩ = some (.string nm) := (hB1.cell (p := ⟨b, o + i, none⟩) hbz).trans G2.out)
                  | (refine step_append_strs (by rfl) (.tmp 29) (.tmp 32) (by rfl) wz.heap.size (.slice (some ⟨wz.heap.size + 1, 0, none⟩) 0 0) 0 [] (by simp [Act.eval]) ((own_empty (wz.alloc (.cells #[.string nm] 9)) wz.heap.size _ 9 (by first | omega | (simp; done) | (simp; omega)) (by simp)).drew) wz.heap.size (.slice (some ⟨g7, 0, none⟩) acc.length acc.length) (acc.take acc.length) (by simp [Act.eval]) (((SA2.out.cut (Nat.le_refl _)).alloc (Nat.le_refl _) _).alloc (by first | omega | (simp; done) | (simp; omega)) _).drew (by first | omega | (simp; done) | (simp; omega)) (by first | omega | (simp; done) | (simp; omega)) ?_; intro x1 y1 hown1 hg1; have hB1 : Below wz.heap.size wz y1 := ((((Below.refl _ _).alloc (Nat.le_refl _) _).alloc (by first | omega | (simp; done) | (simp; omega)) _).drew).grown hg1 (by first | omega | (simp; done) | (simp; omega)) (fun g hg => by simp [Value.ownBlock] at hg; omega); have hs1 := hB1.size; have hq : y1.cell? ⟨wz.heap.size, 0, none⟩ = some (.string nm) := cell_grown hg1 (show World.cell? ((wz.alloc (.cells #[.string nm] 9)).alloc (.cells #[] 9)) ⟨wz.heap.size, 0, none⟩ = _ from by simp) (by simp [Value.ownBlock]); have kf : y1.cell? ⟨b, o + i, none⟩ = some (.string nm) := (hB1.cell (p := ⟨b, o + i, none⟩) hbz).trans G2.out)
                  | (refine step_append_strs (by rfl) (.tmp 33) (.tmp 38) (by rfl) wz.heap.size x1 _ _ (by simp [Act.eval]) (hown1.alloc _) _ (.slice (some ⟨y1.heap.size, 0, none⟩) 1 1) [nm] (by simp [Act.eval]) (strs_one y1 _ rfl nm hnf _) (by first | omega | (simp; done) | (simp; omega)) (by first | omega | (simp; done) | (simp; omega)) ?_; intro x2 y2 hown2 hg2; have hB2 : Below wz.heap.size wz y2 := (hB1.alloc hs1 _).grown hg2 (by first | omega | (simp; done) | (simp; omega)) (fun g hg => (hown1.lt g hg).1); have hs2 := hB2.size; have kf : y2.cell? ⟨b, o + i, none⟩ = some (.string nm) := (hB2.cell (p := ⟨b, o + i, none⟩) hbz).trans G2.out)
                  | (refine step_append_strs (by rfl) (.tmp 33) (.tmp 38) (by rfl) wz.heap.size x1 _ _ (by simp [Act.eval]) hown1 _ (.slice (some ⟨wz.heap.size + 1, 0, none⟩) 1 1) [nm] (by simp [Act.eval]) (strs_cell (B := wz.heap.size + 2) hq (by omega) hnf) (by first | omega | (simp; done) | (simp; omega)) (by first | omega | (simp; done) | (simp; omega)) ?_; intro x2 y2 hown2 hg2; have hB2 : Below wz.heap.size wz y2 := (hB1).grown hg2 (by first | omega | (simp; done) | (simp; omega)) (fun g hg => (hown1.lt g hg).1); have hs2 := hB2.size; have kf : y2.cell? ⟨b, o + i, none⟩ = some (.string nm) := (hB2.cell (p := ⟨b, o + i, none⟩) hbz).trans G2.out)
                  | (refine step_append_strs (by rfl) (.tmp 33) (.tmp 38) (by rfl) wz.heap.size x1 _ _ (by simp [Act.eval]) hown1 _ (.slice (some ⟨wz.heap.size, 0, none⟩) 1 1) [nm] (by simp [Act.eval]) (strs_cell (B := wz.heap.size + 2) hq (by omega) hnf) (by first | omega | (simp; done) | (simp; omega)) (by first | omega | (simp; done) | (simp; omega)) ?_; intro x2 y2 hown2 hg2; have hB2 : Below wz.heap.size wz y2 := (hB1).grown hg2 (by first | omega | (simp; done) | (simp; omega)) (fun g hg => (hown1.lt g hg).1); have hs2 := hB2.size; have kf : y2.cell? ⟨b, o + i, none⟩ = some (.string nm) := (hB2.cell (p := ⟨b, o + i, none⟩) hbz).trans G2.out)
                  | (refine step_append_strs (by rfl) (.tmp 39) (.tmp 42) (by rfl) wz.heap.size x2 _ _ (by simp [Act.eval]) hown2 wz.heap.size (.slice (some ⟨g7, 0, none⟩) 0 0) (acc.drop acc.length) (by simp [Act.eval]) (by rw [List.drop_length]; exact Strs.empty _ _ _ _) (by first | omega | (simp; done) | (simp; omega)) (by first | omega | (simp; done) | (simp; omega)) ?_; intro x3 y3 hown3 hg3; have hB9 : Below wz.heap.size wz y3 := hB2.grown hg3 hs2 (fun g hg => (hown2.lt g hg).1); have kf : y3.cell? ⟨b, o + i, none⟩ = some (.string nm) := (hB9.cell (p := ⟨b, o + i, none⟩) hbz).trans G2.out)
                  | ((trace_state; fail)))
              all_goals
                have hbs := I2.out.B.size
                have HO3 := Lib.hid (show y3.ownsRow w.heap.size 9 1 x3 (acc.take acc.length ++ [nm] ++ acc.drop acc.length).length ((acc.take acc.length ++ [nm] ++ acc.drop acc.length).map Value.string) from by
                  have h9 := own_le hown3 hbs
                  rw [List.nil_append, ← List.map_append, ← List.map_append, Nat.zero_add, ← List.length_append, ← List.length_append] at h9
                  exact h9)
                have HB3 := Lib.hid (I2.out.B.trans (hB9.mono hbs))
                clear hown1 hown2 hown3 hg1 hg2 hg3 hB1 hB2 hB9 kf
                go_wp2
                go_roundg (L.length - (i + 1))
                case measure => omega
                case rel => exact ⟨i + 1, by omega, by omega, by go_num, _, (show Aside _ from by have h9 := HAI.out; show List.length _ = _; simp only [List.length_append, List.length_take, List.length_drop, List.length_singleton] at h9 ⊢; omega), HI.out.1, HI.out.2, ⟨HB3.out, HO3.out⟩⟩
            · go_wp2_with fail
              go_region_held3 (fun y => y.cell? ⟨b, o + i, none⟩ = some (.string nm))
                (first | exact kf | exact G2.out | exact cell_al kf _ | exact cell_al G2.out _ | exact cell_al (cell_al G2.out _) _ | go_keep)
                (first
                  | (refine step_append_strs (by rfl) (.tmp 29) (.tmp 32) (by rfl) wz.heap.size (.slice (some ⟨wz.heap.size, 0, none⟩) 0 0) 0 [] (by simp [Act.eval]) ((own_empty wz wz.heap.size _ 9 (Nat.le_refl _) rfl).drew) wz.heap.size (.slice (some ⟨g7, 0, none⟩) acc.length c7) (acc.take acc.length) (by simp [Act.eval]) ((SA2.out.cut (Nat.le_refl _)).alloc (Nat.le_refl _) _).drew (by first | omega | (simp; done) | (simp; omega)) (by first | omega | (simp; done) | (simp; omega)) ?_; intro x1 y1 hown1 hg1; have hB1 : Below wz.heap.size wz y1 := (((Below.refl _ _).alloc (Nat.le_refl _) _).drew).grown hg1 (by first | omega | (simp; done) | (simp; omega)) (fun g hg => by simp [Value.ownBlock] at hg; omega); have hs1 := hB1.size; have hq : y1.heap.size = y1.heap.size := rfl; have kf : y1.cell? ⟨b, o + i, none⟩ = some (.string nm) := (hB1.cell (p := ⟨b, o + i, none⟩) hbz).trans G2.out)
                  | (refine step_append_strs (by rfl) (.tmp 29) (.tmp 32) (by rfl) wz.heap.size (.slice (some ⟨wz.heap.size, 0, none⟩) 0 0) 0 [] (by simp [Act.eval]) (((own_empty wz wz.heap.size _ 9 (Nat.le_refl _) rfl).alloc _).drew) wz.heap.size (.slice (some ⟨g7, 0, none⟩) acc.length c7) (acc.take acc.length) (by simp [Act.eval]) (((SA2.out.cut (Nat.le_refl _)).alloc (Nat.le_refl _) _).alloc (by first | omega | (simp; done) | (simp; omega)) _).drew (by first | omega | (simp; done) | (simp; omega)) (by first | omega | (simp; done) | (simp; omega)) ?_; intro x1 y1 hown1 hg1; have hB1 : Below wz.heap.size wz y1 := ((((Below.refl _ _).alloc (Nat.le_refl _) _).alloc (by first | omega | (simp; done) | (simp; omega)) _).drew).grown hg1 (by first | omega | (simp; done) | (simp; omega)) (fun g hg => by simp [Value.ownBlock] at hg; omega); have hs1 := hB1.size; have hq : y1.cell? ⟨wz.heap.size + 1, 0, none⟩ = some (.string nm) := cell_grown hg1 (show World.cell? ((wz.alloc (.cells #[] 9)).alloc (.cells #[.string nm] 9)) ⟨wz.heap.size + 1, 0, none⟩ = _ from by simp) (by simp [Value.ownBlock]); have kf : y1.cell? ⟨b, o + i, none⟩ = some (.string nm) := (hB1.cell (p := ⟨b, o + i, none⟩) hbz).trans G2.out)
                  | (refine step_append_strs (by rfl) (.tmp 29) (.tmp 32) (by rfl) wz.heap.size (.slice (some ⟨wz.heap.size + 1, 0, none⟩) 0 0) 0 [] (by simp [Act.eval]) ((own_empty (wz.alloc (.cells #[.string nm] 9)) wz.heap.size _ 9 (by first | omega | (simp; done) | (simp; omega)) (by simp)).drew) wz.heap.size (.slice (some ⟨g7, 0, none⟩) acc.length c7) (acc.take acc.length) (by simp [Act.eval]) (((SA2.out.cut (Nat.le_refl _)).alloc (Nat.le_refl _) _).alloc (by first | omega | (simp; done) | (simp; omega)) _).drew (by first | omega | (simp; done) | (simp; omega)) (by first | omega | (simp; done) | (simp; omega)) ?_; intro x1 y1 hown1 hg1; have hB1 : Below wz.heap.size wz y1 := ((((Below.refl _ _).alloc (Nat.le_refl _) _).alloc (by first | omega | (simp; done) | (simp; omega)) _).drew).grown hg1 (by first | omega | (simp; done) | (simp; omega)) (fun g hg => by simp [Value.ownBlock] at hg; omega); have hs1 := hB1.size; have hq : y1.cell? ⟨wz.heap.size, 0, none⟩ = some (.string nm) := cell_grown hg1 (show World.cell? ((wz.alloc (.cells #[.string nm] 9)).alloc (.cells #[] 9)) ⟨wz.heap.size, 0, none⟩ = _ from by simp) (by simp [Value.ownBlock]); have kf : y1.cell? ⟨b, o + i, none⟩ = some (.string nm) := (hB1.cell (p := ⟨b, o + i, none⟩) hbz).trans G2.out)
                  | (refine step_append_strs (by rfl) (.tmp 33) (.tmp 38) (by rfl) wz.heap.size x1 _ _ (by simp [Act.eval]) (hown1.alloc _) _ (.slice (some ⟨y1.heap.size, 0, none⟩) 1 1) [nm] (by simp [Act.eval]) (strs_one y1 _ rfl nm hnf _) (by first | omega | (simp; done) | (simp; omega)) (by first | omega | (simp; done) | (simp; omega)) ?_; intro x2 y2 hown2 hg2; have hB2 : Below wz.heap.size wz y2 := (hB1.alloc hs1 _).grown hg2 (by first | omega | (simp; done) | (simp; omega)) (fun g hg => (hown1.lt g hg).1); have hs2 := hB2.size; have kf : y2.cell? ⟨b, o + i, none⟩ = some (.string nm) := (hB2.cell (p := ⟨b, o + i, none⟩) hbz).trans G2.out)
                  | (refine step_append_strs (by rfl) (.tmp 33) (.tmp 38) (by rfl) wz.heap.size x1 _ _ (by simp [Act.eval]) hown1 _ (.slice (some ⟨wz.heap.size + 1, 0, none⟩) 1 1) [nm] (by simp [Act.eval]) (strs_cell (B := wz.heap.size + 2) hq (by omega) hnf) (by first | omega | (simp; done) | (simp; omega)) (by first | omega | (simp; done) | (simp; omega)) ?_; intro x2 y2 hown2 hg2; have hB2 : Below wz.heap.size wz y2 := (hB1).grown hg2 (by first | omega | (simp; done) | (simp; omega)) (fun g hg => (hown1.lt g hg).1); have hs2 := hB2.size; have kf : y2.cell? ⟨b, o + i, none⟩ = some (.string nm) := (hB2.cell (p := ⟨b, o + i, none⟩) hbz).trans G2.out)
                  | (refine step_append_strs (by rfl) (.tmp 33) (.tmp 38) (by rfl) wz.heap.size x1 _ _ (by simp [Act.eval]) hown1 _ (.slice (some ⟨wz.heap.size, 0, none⟩) 1 1) [nm] (by simp [Act.eval]) (strs_cell (B := wz.heap.size + 2) hq (by omega) hnf) (by first | omega | (simp; done) | (simp; omega)) (by first | omega | (simp; done) | (simp; omega)) ?_; intro x2 y2 hown2 hg2; have hB2 : Below wz.heap.size wz y2 := (hB1).grown hg2 (by first | omega | (simp; done) | (simp; omega)) (fun g hg => (hown1.lt g hg).1); have hs2 := hB2.size; have kf : y2.cell? ⟨b, o + i, none⟩ = some (.string nm) := (hB2.cell (p := ⟨b, o + i, none⟩) hbz).trans G2.out)
                  | (refine step_append_strs (by rfl) (.tmp 39) (.tmp 42) (by rfl) wz.heap.size x2 _ _ (by simp [Act.eval]) hown2 wz.heap.size (.slice (some ⟨g7, acc.length, none⟩) 0 (c7 - acc.length)) (acc.drop acc.length) (by simp [Act.eval]) (by rw [List.drop_length]; exact Strs.empty _ _ _ _) (by first | omega | (simp; done) | (simp; omega)) (by first | omega | (simp; done) | (simp; omega)) ?_; intro x3 y3 hown3 hg3; have hB9 : Below wz.heap.size wz y3 := hB2.grown hg3 hs2 (fun g hg => (hown2.lt g hg).1); have kf : y3.cell? ⟨b, o + i, none⟩ = some (.string nm) := (hB9.cell (p := ⟨b, o + i, none⟩) hbz).trans G2.out)
                  | ((trace_state; fail)))
              all_goals
                have hbs := I2.out.B.size
                have HO3 := Lib.hid (show y3.ownsRow w.heap.size 9 1 x3 (acc.take acc.length ++ [nm] ++ acc.drop acc.length).length ((acc.take acc.length ++ [nm] ++ acc.drop acc.length).map Value.string) from by
                  have h9 := own_le hown3 hbs
                  rw [List.nil_append, ← List.map_append, ← List.map_append, Nat.zero_add, ← List.length_append, ← List.length_append] at h9
                  exact h9)
                have HB3 := Lib.hid (I2.out.B.trans (hB9.mono hbs))
                clear hown1 hown2 hown3 hg1 hg2 hg3 hB1 hB2 hB9 kf
                go_wp2
                go_roundg (L.length - (i + 1))
                case measure => omega
                case rel => exact ⟨i + 1, by omega, by omega, by go_num, _, (show Aside _ from by have h9 := HAI.out; show List.length _ = _; simp only [List.length_append, List.length_take, List.length_drop, List.length_singleton] at h9 ⊢; omega), HI.out.1, HI.out.2, ⟨HB3.out, HO3.out⟩⟩
    · obtain rfl : i = L.length := by omega
      have SE := Lib.hid (strs_row I.out.own AF.out (by omega))
      have HLO := Lib.hid (own_low I.out.own)
      have HM := Lib.hid (show AscOf acc L from ⟨ASC.out, fun x => by have := MEM.out x; rwa [List.take_length] at this⟩)
      go_wp2
      go_ret
      exact ⟨_, _, rfl, HM.out, SE.out, HLO.out, I.out.B⟩

end Go.Proofs.Ytglaohaeaofnhaa
