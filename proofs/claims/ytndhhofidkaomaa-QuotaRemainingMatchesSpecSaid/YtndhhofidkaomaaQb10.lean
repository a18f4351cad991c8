/- Package quota and what its laws compare it with, at this seat's translation.
   Condition: as each theorem states; this text: QtLawUse, QtSums, QtResize, QtExc, QtRem, QtLawBounds, QtRefExc. -/
import Derived.Test.YtndhhofidkaomaaQb9
import Derived.Test.YtndhhofidkaomaaQb6
import Derived.Deep.RegionHeld3
import Derived.Test.YtndhhofidkaomaaQb5
import Derived.BigQuiet

set_option linter.all false

/- The law QuotaUsageMatchesSpec returns true at every tree. Conditions: the tree's cells lie in memory as they read. -/

set_option linter.all false
namespace Go.Proofs.Ytndhhofidkaomaa
open Go.RowKit

set_option maxRecDepth 100000 in
set_option maxHeartbeats 800000 in
theorem refUse0_any (a : Option Addr) (c : Nat) (t : Tr) (n : Nat) (w : World) (hn : n < t.length) (hk : (nod t n).k = 0) (h : Nods w w.heap.size a c t) :
    Calls Try.prog 10 #[.agg #[.slice a t.length c], .int .i64 (n : Int)] w fun e w' => e = .returned (.int .i64 0) ∧ Below w.heap.size w w' := by
  have nlz : (n : Int) < (t.length : Int) := by omega
  have nz : (0 : Int) ≤ (n : Int) := Int.natCast_nonneg _
  obtain ⟨b, o, ve, vd, va, vx, rfl, hb, hc, hs⟩ := h.one hn
  have c0 := hc.c0
  rw [hk] at c0
  have B0 := Lib.hid ((Below.refl w.heap.size w).alloc (Nat.le_refl _) (.cells #[.slice (some ⟨b, o, none⟩) t.length c] 24))
  clear hc hs h hk
  go_enter Try.func10, Try.ntmps10
  go_wp2
  go_ret
  exact ⟨rfl, B0.out⟩
theorem usgN_free {t : Tr} (hd : Head t) (p3 : Pass t 3) {n : Nat} (hn : n < t.length) (hk : (nod t n).k = 0) : usgN t n = 0 := by
  have h1 := Pass.ok1 hd (p3.mono (by omega))
  have hf := (reach_ok hd p3 hn).1
  have hc := h1.code n hn
  unfold codeN at hc
  rw [if_pos hk] at hc
  unfold codeF at hc
  have hd0 : (nod t n).dl = 0 := by
    split at hc
    · rename_i h0; omega
    · cases hc
  have key : ∀ i, (if hasL (visits t n) i = true then (nod t i).dl else 0) = 0 := fun i => by
    split
    · rename_i hi
      obtain ⟨xs, hx⟩ := hasL_iff.1 hi
      rw [(free_rch h1 hk ((mem_visits hf).1 hx)).2]; exact hd0
    · rfl
  unfold usgN usg
  simp only [key]
  have := sum_le_mul (l := (List.range t.length).map fun _ => 0) (m := 0) (by simp)
  omega
theorem refUse_any (a : Option Addr) (c : Nat) (t : Tr) (n : Nat) (w : World) (hd : Head t) (p3 : Pass t 3) (hn : n < t.length) (h : Nods w w.heap.size a c t) :
    Calls Try.prog 10 #[.agg #[.slice a t.length c], .int .i64 (n : Int)] w fun e w' => e = .returned (.int .i64 (usgN t n : Nat)) ∧ Below w.heap.size w w' := by
  by_cases hk : (nod t n).k = 0
  · rw [usgN_free hd p3 hn hk]
    exact refUse0_any a c t n w hn hk h
  · exact refUsage_any a c t n w (Pass.ok1 hd (p3.mono (by omega))) (Pass.from_ hd p3 hn hk).1 h

set_option maxRecDepth 100000 in
set_option maxHeartbeats 3200000 in
theorem lawUse_any (a : Option Addr) (c : Nat) (t : Tr) (w : World) (h : Nods w w.heap.size a c t) :
    Calls Try.prog 3 #[.agg #[.slice a t.length c]] w fun e w' => e = .returned (.bool true) ∧ Below w.heap.size w w' := by
  have C2 := Lib.hid (fun W (hb : Below w.heap.size w W) => vtree_any a c t W (h.up hb))
  have C1 := Lib.hid (fun W (hb : Below w.heap.size w W) => use_any a c t W (h.up hb))
  have T0 := Lib.hid (One.new w (.slice a t.length c) 24)
  have B0 := Lib.hid ((Below.refl w.heap.size w).alloc (Nat.le_refl _) (.cells #[.slice a t.length c] 24))
  unfold faultV at C2
  unfold UsePost faultV at C1
  by_cases hq : (valT t).1 = 0
  · have hz := valT_zero hq
    obtain ⟨hd, p4⟩ := valT_ok hq
    have H1 := Lib.hid (Pass.ok1 hd (p4.mono (by omega)))
    have C3 := Lib.hid (fun n (hn : n < t.length) W (hb : Below w.heap.size w W) => refUse_any a c t n W hd (p4.mono (by omega)) hn (h.up hb))
    have h40 := H1.out.le
    rw [hz] at C1 C2
    clear hd p4 hq hz h
    go_enter Try.func3, Try.ntmps3
    go_wp2_with fail
    refine (C1.out _ B0.out).mono ?_
    rintro e W1 (⟨hx, _⟩ | ⟨_, R, hR, rfl, hrow, b1⟩)
    · exact absurd rfl hx
    have T1 := Lib.hid ((T0.out.below b1 T0.out.lt).alloc (.cells #[.int .i64 0, .int .i64 0] 27))
    have B1 := Lib.hid ((B0.out.trans (b1.mono B0.out.size)).alloc (Nat.le_trans B0.out.size b1.size) (.cells #[.int .i64 0, .int .i64 0] 27))
    have F1 := Lib.hid (FBox.new W1 0 0 27)
    have R1 := Lib.hid (hrow.alloc (.cells #[.int .i64 0, .int .i64 0] 27))
    have tc := (T0.out.below b1 T0.out.lt).c0
    have tl := (T0.out.below b1 T0.out.lt).lt
    have hRl := hrow.lt
    clear b1 hrow
    go_wp2_with fail
    refine (C2.out _ B1.out).mono ?_
    rintro e W2 ⟨rfl, b2⟩
    have T2 := Lib.hid ((T1.out.below b2 T1.out.lt).alloc (.cells #[.int .i64 0, .int .i64 0] 27))
    have B2 := Lib.hid ((B1.out.trans (b2.mono B1.out.size)).alloc (Nat.le_trans B1.out.size b2.size) (.cells #[.int .i64 0, .int .i64 0] 27))
    have R2 := Lib.hid ((R1.out.below b2 R1.out.lt).alloc (.cells #[.int .i64 0, .int .i64 0] 27))
    have F2 := Lib.hid (F1.out.below b2 F1.out.lt)
    have T2b := Lib.hid (T1.out.below b2 T1.out.lt)
    clear b2 tc tl C1 C2
    have f0 := F2.out.c0
    have f1 := F2.out.c1
    have fl := F2.out.lt
    have t0 := T2b.out.c0
    have tl := T2b.out.lt
    go_wp2_with fail
    clear f0 f1 fl t0 tl
    go_loopg [6] t.length (fun gg s6 wr => ∃ k : Nat, k ≤ t.length ∧ t.length - k ≤ gg ∧ s6 = .int .i64 k ∧ Aside (Below w.heap.size w wr) ∧ Aside (One wr w.heap.size (.slice a t.length c)) ∧ Aside (Row wr R t.length (fun j => .int .i64 (usgN t j : Nat))))
    case atStart => exact ⟨0, by omega, by omega, rfl, B2.out, T2.out, R2.out⟩
    case round =>
      obtain ⟨k, hk, hg, rfl, B3, T3, R3⟩ := hrel
      clear B2 T2 R2
      by_cases hlt : k < t.length
      · have hltz : (k : Int) < (t.length : Int) := by omega
        have hi0 : (0 : Int) ≤ (k : Int) := Int.natCast_nonneg _
        have HC := Lib.hid (fun W (hb : Below w.heap.size w W) => C3.out k hlt W hb)
        have t0 := T3.out.c0
        have tl := T3.out.lt
        have r0 := R3.out.c k hlt
        have rl := R3.out.lt
        generalize usgN t k = m at *
        go_wp2_with fail
        have K := Lib.hid (fun y (hy : Below wr.heap.size wr y) => (show Below wr.heap.size wr y ∧ y.cell? ⟨R, k, none⟩ = some (.int .i64 (m : Nat)) ∧ y.cell? ⟨w.heap.size, 0, none⟩ = some (.slice a t.length c) from
          ⟨hy, (hy.cell (p := ⟨R, k, none⟩) rl).trans r0, (hy.cell (p := ⟨w.heap.size, 0, none⟩) tl).trans t0⟩))
        go_region_held3 (fun y => Below wr.heap.size wr y ∧ y.cell? ⟨R, k, none⟩ = some (.int .i64 (m : Nat)) ∧ y.cell? ⟨w.heap.size, 0, none⟩ = some (.slice a t.length c))
          (first | exact K.out _ hR | exact K.out _ (Below.refl _ _).drew)
          ((go_at_call 10; have hs0 := And.left ‹Below wr.heap.size wr _ ∧ _›; refine (HC.out _ (B3.out.trans (hs0.mono B3.out.size))).mono ?_; rintro e y ⟨rfl, hb9⟩; have hR := hs0.trans (hb9.mono hs0.size)))
        all_goals
          have hz := And.left ‹Below wr.heap.size wr _ ∧ _›
          go_wp2
          go_roundg (t.length - (k + 1))
          case measure => omega
          case rel => exact ⟨k + 1, by omega, by omega, by go_num, B3.out.trans (hz.mono B3.out.size), T3.out.below hz tl, R3.out.below hz rl⟩
      · obtain rfl : k = t.length := by omega
        go_wp2
        go_ret
        exact ⟨rfl, B3.out⟩
  · have hq1 : ((valT t).1 != 0) = true := by simpa using hq
    have HQ := Lib.hid hq
    have C1' := Lib.hid (fun W (hb : Below w.heap.size w W) => (C1.out W hb).mono fun e w' hh => (show e = .returned (.tuple #[.slice none 0 0, .agg #[.int .i64 (valT t).1, .int .i64 (valT t).2]]) ∧ Below W.heap.size W w' from by
      rcases hh with ⟨_, h1⟩ | ⟨h0, _⟩
      · exact h1
      · exact absurd h0 hq))
    clear h hq C1
    generalize (valT t).1 = q at *
    generalize (valT t).2 = r at *
    go_enter Try.func3, Try.ntmps3
    go_wp2_with fail
    refine (C1'.out _ B0.out).mono ?_
    rintro e W1 ⟨rfl, b1⟩
    have B1 := Lib.hid ((B0.out.trans (b1.mono B0.out.size)).alloc (Nat.le_trans B0.out.size b1.size) (.cells #[.int .i64 q, .int .i64 r] 27))
    have F1 := Lib.hid (FBox.new W1 q r 27)
    have tc := (T0.out.below b1 T0.out.lt).c0
    have tl := (T0.out.below b1 T0.out.lt).lt
    clear b1
    go_wp2_with fail
    refine (C2.out _ B1.out).mono ?_
    rintro e W2 ⟨rfl, b2⟩
    have B2 := Lib.hid ((B1.out.trans (b2.mono B1.out.size)).alloc (Nat.le_trans B1.out.size b2.size) (.cells #[.int .i64 q, .int .i64 r] 27))
    have F2 := Lib.hid (F1.out.below b2 F1.out.lt)
    clear b2 tc tl C1' C2
    have f0 := F2.out.c0
    have f1 := F2.out.c1
    have fl := F2.out.lt
    go_wp2
    go_ret
    exact ⟨rfl, B2.out⟩

end Go.Proofs.Ytndhhofidkaomaa

/- Sums of sizes: the owners' sums and the usage of the root; the usage of a directory and of its entries. No program. -/

set_option linter.all false
namespace Go.Proofs.Ytndhhofidkaomaa
open Go.RowKit

theorem mem_le_sum : ∀ {l : List Nat} {x : Nat}, x ∈ l → x ≤ l.sum
  | a :: l, x, h => by
    rcases List.mem_cons.1 h with rfl | h
    · simp
    · have := mem_le_sum h; simp; omega
theorem sum_mono {α : Type} (f g : α → Nat) : ∀ (l : List α), (∀ x ∈ l, f x ≤ g x) → (l.map f).sum ≤ (l.map g).sum
  | [], _ => by simp
  | a :: l, h => by
    have h1 := h a (by simp)
    have h2 := sum_mono f g l fun x hx => h x (by simp [hx])
    simp only [List.map_cons, List.sum_cons]; omega
theorem sum_swap {α : Type} (f : α → Nat → Nat) (m : List Nat) : ∀ (l : List α), (l.map fun e => (m.map (f e)).sum).sum = (m.map fun j => (l.map fun e => f e j).sum).sum
  | [] => by
    have : ∀ m : List Nat, (m.map fun _ => 0).sum = 0 := fun m => by induction m with
      | nil => rfl
      | cons a m ih => simpa using ih
    simp [this]
  | a :: l => by
    simp only [List.map_cons, List.sum_cons]
    rw [sum_swap f m l, ← sum_map_add]

/-- The first k of the owners' sums, together. -/
def byTo (t : Tr) (k : Nat) : Nat := ((List.range k).map fun u => ownTo t t.length u).sum
theorem byTo_zero (t : Tr) : byTo t 0 = 0 := rfl
theorem byTo_succ (t : Tr) (k : Nat) : byTo t (k + 1) = byTo t k + ownTo t t.length k := by
  unfold byTo; rw [List.range_succ, List.map_append, List.sum_append]; simp
theorem byTo_le {t : Tr} (h : Ok1 t) : ∀ k, byTo t k ≤ k * 8000
  | 0 => by rw [byTo_zero]; omega
  | k + 1 => by
    have := byTo_le h k
    have h2 := ownTo_le h k t.length
    have := h.le
    rw [byTo_succ]; omega
theorem owners_all {t : Tr} (h : Ok1 t) : ∀ m, m ≤ t.length → ((List.range 8).map fun u => ownTo t m u).sum = ((List.range m).map fun i => (nod t i).dl).sum
  | 0, _ => by simp only [ownTo_zero]; rfl
  | m + 1, hm => by
    obtain ⟨u, hu, hu8⟩ := h.own (n := m) (by omega)
    rw [List.range_succ (n := m), List.map_append, List.sum_append, ← owners_all h m (by omega)]
    simp only [ownTo_succ, List.map_cons, List.map_nil, List.sum_cons, List.sum_nil, Nat.add_zero]
    rw [sum_map_add, hu]
    congr 1
    have e : ∀ i : Nat, (if (u : Int) = (i : Int) then (nod t m).dl else 0) = if u = i then (fun _ => (nod t m).dl) i else 0 := fun i => by
      by_cases e : u = i
      · subst e; simp
      · rw [if_neg e, if_neg (by omega)]
    simp only [e]
    rw [sum_one_at, if_pos hu8]
theorem free_dl {t : Tr} (h1 : Ok1 t) {n : Nat} (hn : n < t.length) (hk : (nod t n).k = 0) : (nod t n).dl = 0 := by
  have hc := h1.code n hn
  unfold codeN at hc
  rw [if_pos hk] at hc
  unfold codeF at hc
  split at hc
  · rename_i h0; omega
  · cases hc
theorem dir_dl {t : Tr} (h1 : Ok1 t) {n : Nat} (hn : n < t.length) (hk : (nod t n).k = 1) : (nod t n).dl = 0 := by
  have hc := h1.code n hn
  unfold codeN at hc
  rw [if_neg (by omega), if_pos (.inl hk)] at hc
  have h2 := (or4_zero hc).1
  unfold codeC at h2
  split at h2
  · cases h2
  · split at h2
    · cases h2
    · rename_i h3
      rcases Nat.eq_zero_or_pos (nod t n).dl with h0 | h0
      · exact h0
      · exact absurd (.inl ⟨hk, h0⟩) h3
/-- All that users own is below the root. -/
theorem byTo_root {t : Tr} (hd : Head t) (p4 : Pass t 4) : byTo t 8 = usgN t 0 := by
  have h1 := Pass.ok1 hd (p4.mono (by omega))
  have o2 := Pass.ok2 hd (p4.mono (by omega))
  unfold byTo usgN usg
  rw [owners_all h1 t.length (Nat.le_refl _)]
  congr 1
  refine List.map_congr_left fun i hi => ?_
  have hil : i < t.length := List.mem_range.1 hi
  by_cases hk : (nod t i).k = 0
  · rw [free_dl h1 hil hk]; simp
  · obtain ⟨_, zs, hz⟩ := Pass.from_ hd (p4.mono (by omega)) hil hk
    rw [if_pos (hasL_iff.2 ⟨zs, (mem_visits o2.fin).2 hz⟩)]
theorem rch_first {t : Tr} {n m : Nat} {zs : List ByteArray} (hz : Rch t n zs m) : (zs = [] ∧ m = n) ∨ ∃ e ∈ kids t n, ∃ us, zs = e.n :: us ∧ Rch t e.i.toNat us m := by
  induction hz with
  | nil => exact .inl ⟨rfl, rfl⟩
  | snoc hz he ih =>
    rcases ih with ⟨rfl, rfl⟩ | ⟨e', he', us, rfl, hus⟩
    · exact .inr ⟨_, he, [], by simp, .nil⟩
    · exact .inr ⟨e', he', _, by simp, .snoc hus he⟩
theorem has_kid {t : Tr} (hd : Head t) (p3 : Pass t 3) {n : Nat} (hn : n < t.length) {e : DE} (he : e ∈ kids t n) {j : Nat} (hj : hasL (visits t e.i.toNat) j = true) : hasL (visits t n) j = true := by
  have h1 := Pass.ok1 hd (p3.mono (by omega))
  have hl := (h1.kid he).2.2.1
  obtain ⟨xs, hx⟩ := hasL_iff.1 hj
  have hr := (mem_visits (reach_ok hd p3 hl).1).1 hx
  have h2 := Rch.trans (Rch.snoc (Rch.nil (t := t) (s := n)) he) hr
  exact hasL_iff.2 ⟨_, (mem_visits (reach_ok hd p3 hn).1).2 h2⟩
/-- An entry's usage is at most the directory's. -/
theorem usgN_kid {t : Tr} (hd : Head t) (p3 : Pass t 3) {n : Nat} (hn : n < t.length) {e : DE} (he : e ∈ kids t n) : usgN t e.i.toNat ≤ usgN t n := by
  unfold usgN usg
  refine sum_mono _ _ _ fun j _ => ?_
  by_cases h : hasL (visits t e.i.toNat) j = true
  · rw [if_pos h, if_pos (has_kid hd p3 hn he h)]; exact Nat.le_refl _
  · rw [if_neg h]; exact Nat.zero_le _
/-- The usage of the first k entries, together. -/
def entTo (t : Tr) (n k : Nat) : Nat := (((kids t n).take k).map fun e => usgN t e.i.toNat).sum
theorem entTo_zero (t : Tr) (n : Nat) : entTo t n 0 = 0 := by unfold entTo; simp
theorem entTo_succ {t : Tr} {n k : Nat} (h : k < (kids t n).length) : entTo t n (k + 1) = entTo t n k + usgN t ((kids t n).getD k D0).i.toNat := by
  unfold entTo; rw [List.take_succ_eq_append_getElem h, List.map_append, List.sum_append, deD h]; simp
theorem entTo_le {t : Tr} (h : Ok1 t) (n : Nat) : ∀ k, k ≤ (kids t n).length → entTo t n k ≤ k * 8000
  | 0, _ => by rw [entTo_zero]; exact Nat.zero_le _
  | k + 1, hk => by
    have := entTo_le h n k (by omega)
    have h2 : usgN t ((kids t n).getD k D0).i.toNat ≤ 8000 := usg_le h _
    rw [entTo_succ (by omega)]
    generalize usgN t ((kids t n).getD k D0).i.toNat = z at *
    omega
/-- A directory's usage is at most that of its entries together. -/
theorem usgN_dir {t : Tr} (hd : Head t) (p3 : Pass t 3) {n : Nat} (hn : n < t.length) (hk : (nod t n).k = 1) : usgN t n ≤ entTo t n (kids t n).length := by
  have h1 := Pass.ok1 hd (p3.mono (by omega))
  unfold entTo usgN usg
  rw [List.take_length, sum_swap]
  refine sum_mono _ _ _ fun j _ => ?_
  by_cases h : hasL (visits t n) j = true
  · rw [if_pos h]
    obtain ⟨xs, hx⟩ := hasL_iff.1 h
    rcases rch_first ((mem_visits (reach_ok hd p3 hn).1).1 hx) with ⟨_, rfl⟩ | ⟨e, he, us, _, hr⟩
    · rw [dir_dl h1 hn hk]; exact Nat.zero_le _
    · have hl := (h1.kid he).2.2.1
      have h2 : hasL (visits t e.i.toNat) j = true := hasL_iff.2 ⟨_, (mem_visits (reach_ok hd p3 hl).1).2 hr⟩
      refine mem_le_sum (List.mem_map.2 ⟨e, he, ?_⟩)
      rw [if_pos h2]
  · rw [if_neg h]; exact Nat.zero_le _

end Go.Proofs.Ytndhhofidkaomaa

/- Trees that differ in the size of one file: the same paths, the same entries; how much lies below. No program. -/

set_option linter.all false
namespace Go.Proofs.Ytndhhofidkaomaa
open Go.RowKit

/-- File n with this size. -/
def reSize (t : Tr) (n s : Nat) : Tr := t.set n { nod t n with dl := s }
theorem re_len (t : Tr) (n s : Nat) : (reSize t n s).length = t.length := by unfold reSize; simp
theorem nod_re {t : Tr} {n s : Nat} (hn : n < t.length) (m : Nat) : nod (reSize t n s) m = if m = n then { nod t n with dl := s } else nod t m := by
  have h1 : ∀ x : Nod, nod (t.set n x) m = if m = n then x else nod t m := fun x => by
    unfold nod
    rw [List.getD_eq_getElem?_getD, List.getElem?_set, List.getD_eq_getElem?_getD]
    by_cases h : m = n
    · subst h; simp [hn]
    · have h2 : ¬ n = m := fun e => h e.symm
      simp [h, h2]
  exact h1 _
theorem kids_re {t : Tr} {n s : Nat} (hn : n < t.length) (m : Nat) : kids (reSize t n s) m = kids t m := by
  unfold kids; rw [nod_re hn]; split
  · rename_i h; rw [h]
  · rfl
theorem k_re {t : Tr} {n s : Nat} (hn : n < t.length) (m : Nat) : (nod (reSize t n s) m).k = (nod t m).k := by
  rw [nod_re hn]; split
  · rename_i h; rw [h]
  · rfl
theorem used_re {t : Tr} {n s : Nat} (hn : n < t.length) : used (reSize t n s) = used t := by
  funext i
  unfold used
  rw [re_len, k_re hn]
theorem dfs_re {t : Tr} {n s : Nat} (hn : n < t.length) : ∀ (d : Nat) (xs : List ByteArray) (m : Nat), dfs (reSize t n s) d xs m = dfs t d xs m
  | 0, _, _ => rfl
  | d + 1, xs, m => by
    unfold dfs
    rw [kids_re hn]
    congr 1
    congr 1
    funext e
    exact dfs_re hn d _ _
theorem visits_re {t : Tr} {n s : Nat} (hn : n < t.length) (m : Nat) : visits (reSize t n s) m = visits t m := by
  unfold visits sub; rw [re_len]; exact dfs_re hn _ _ _
theorem rch_re {t : Tr} {n s : Nat} (hn : n < t.length) {b m : Nat} {xs : List ByteArray} (h : Rch (reSize t n s) b xs m) : Rch t b xs m := by
  induction h with
  | nil => exact .nil
  | snoc _ he ih => rw [kids_re hn] at he; exact .snoc ih he
theorem from_re {t : Tr} {n s b : Nat} (hn : n < t.length) (h : From t b) : From (reSize t n s) b :=
  ⟨fun xs m hr => by rw [re_len]; exact h.fin xs m (rch_re hn hr), by rw [re_len]; exact h.lt, by rw [k_re hn]; exact h.used, fun xs ys m hk hx hy => h.uniq xs ys m (by rw [k_re hn] at hk; exact hk) (rch_re hn hx) (rch_re hn hy)⟩
theorem ok1_re {t : Tr} {n s : Nat} (hn : n < t.length) (h : Ok1 t) (hk : (nod t n).k = 2) (hs : s ≤ 200) : Ok1 (reSize t n s) := by
  refine ⟨by rw [re_len]; exact h.ne, by rw [re_len]; exact h.le, by rw [k_re hn]; exact h.root, fun m hm => ?_⟩
  rw [re_len] at hm
  refine code_of ?_
  rw [used_re hn, nod_re hn]
  have h2 := nok_of (h.code m hm)
  split
  · rename_i e
    subst e
    exact ⟨fun h0 => by simp only at h0; omega, h2.kind, h2.o0, h2.o7, h2.v0, h2.v1, h2.q0, h2.q1, fun h0 => by simp only at h0; omega, h2.file, hs, h2.ac, h2.xs, h2.len, h2.ent, h2.srt⟩
  · exact h2
theorem sum_re (f : Nat → Nat) (n : Nat) (g : Nat) : ∀ m, ((((List.range m).map fun i => if i = n then g else f i).sum : Nat) : Int) = (((List.range m).map f).sum : Nat) + if n < m then (g : Int) - f n else 0
  | 0 => by simp
  | m + 1 => by
    have ih := sum_re f n g m
    rw [List.range_succ, List.map_append, List.map_append, List.sum_append, List.sum_append]
    simp only [List.map_cons, List.map_nil, List.sum_cons, List.sum_nil, Nat.add_zero]
    rw [Int.natCast_add, Int.natCast_add, ih]
    by_cases h : m = n
    · subst h; simp only [if_true, Nat.lt_irrefl, if_false, Nat.lt_succ_self]; omega
    · rw [if_neg h]
      by_cases h2 : n < m
      · rw [if_pos h2, if_pos (by omega)]; omega
      · rw [if_neg h2, if_neg (by omega)]; omega
theorem usgN_re {t : Tr} {n s : Nat} (hn : n < t.length) (i : Nat) : (usgN (reSize t n s) i : Int) = (usgN t i : Nat) + if hasL (visits t i) n = true then (s : Int) - (nod t n).dl else 0 := by
  unfold usgN usg
  rw [visits_re hn, re_len]
  have e : ((List.range t.length).map fun j => if hasL (visits t i) j = true then (nod (reSize t n s) j).dl else 0) = (List.range t.length).map fun j => if j = n then (if hasL (visits t i) n = true then s else 0) else (fun j => if hasL (visits t i) j = true then (nod t j).dl else 0) j := by
    refine List.map_congr_left fun j _ => ?_
    rw [nod_re hn]
    by_cases h : j = n
    · subst h; simp
    · simp [h]
  rw [e, sum_re, if_pos hn]
  by_cases h : hasL (visits t i) n = true
  · simp [h]
  · simp [h]

/-- Directory i would be too full, in the reference's words. -/
def exB (t : Tr) (n s i : Nat) : Prop := 0 < (nod t i).q ∧ (nod t i).q < (usgN (reSize t n s) i : Nat) ∧ (usgN t i : Int) < (usgN (reSize t n s) i : Nat)
theorem exB_iff {t : Tr} (hd : Head t) (p4 : Pass t 4) {n s i : Nat} (hn : n < t.length) (hi : i < t.length) : exB t n s i ↔ qOn t n i = true ∧ room t i < (s : Int) - (nod t n).dl := by
  have h1 := Pass.ok1 hd (p4.mono (by omega))
  have hq0 := (h1.fine i).q0
  have hc : codeQ t i = 0 := p4 3 (by omega) i hi
  have hle : (nod t i).q ≠ 0 → (usgN t i : Int) ≤ (nod t i).q := fun hq => by
    unfold codeQ at hc
    split at hc
    · cases hc
    · rename_i h; unfold usgN; omega
  have hu := usgN_re (s := s) hn i
  unfold exB qOn room
  cases hh : hasL (visits t i) n with
  | false =>
    rw [hh] at hu
    simp only [Bool.and_false, Bool.false_eq_true, if_false, false_and, iff_false] at hu ⊢
    omega
  | true =>
    rw [hh] at hu
    simp only [if_true, Bool.and_true, decide_eq_true_eq] at hu ⊢
    constructor
    · rintro ⟨a1, a2, a3⟩; omega
    · rintro ⟨a1, a2⟩
      have := hle a1
      omega

end Go.Proofs.Ytndhhofidkaomaa

/- quota.Exceeded at every tree, file number and size. Conditions: the tree's cells lie in memory as they read; the numbers are an int's. -/

set_option linter.all false
namespace Go.Proofs.Ytndhhofidkaomaa
open Go.RowKit

theorem own_leQ {w : World} {base base' n size : Nat} {e : TypeId} {v : Value} {xs : List Value} (h : w.ownsRow base e size v n xs) (hb : base' ≤ base) : w.ownsRow base' e size v n xs := by
  refine ⟨h.1, ?_⟩
  rcases h.2 with h1 | ⟨g, cap, cur, hv, hbase, rest⟩
  · exact .inl h1
  · exact .inr ⟨g, cap, cur, hv, Nat.le_trans hb hbase, rest⟩
theorem own_formQ {w : World} {base size n : Nat} {e : TypeId} {v : Value} {xs : List Value} (h : w.ownsRow base e size v n xs) : ∃ a c, v = .slice a n c := by
  rcases h.2 with ⟨rfl, rfl⟩ | ⟨g, cap, cur, rfl, _⟩
  · exact ⟨_, _, rfl⟩
  · exact ⟨_, _, rfl⟩
def exStep (G : Int) (s : List Int) (p : Nat × Int) : List Int := if p.2 < G then s ++ [(p.1 : Int)] else s
/-- The directories whose room is less than G. -/
def exL (t : Tr) (file : Nat) (G : Int) (k : Nat) : List Int := (qL t file k).foldl (exStep G) []
theorem exStep_len (G : Int) (s : List Int) (p : Nat × Int) : (exStep G s p).length ≤ s.length + 1 := by unfold exStep; split <;> simp
theorem exFold_len (G : Int) : ∀ (l : List (Nat × Int)) (s : List Int), (l.foldl (exStep G) s).length ≤ s.length + l.length
  | [], s => by simp
  | p :: l, s => by
    have := exFold_len G l (exStep G s p)
    have := exStep_len G s p
    simp only [List.foldl_cons, List.length_cons]; omega
theorem exL_len (t : Tr) (file : Nat) (G : Int) (k : Nat) : (exL t file G k).length ≤ k := by
  have := exFold_len G (qL t file k) []
  have := qL_len t file k
  unfold exL; simp at *; omega

/-- What Exceeded's visitor has: the growth in box pg, the row in box pe. -/
def EI (pg pe : Nat) (G : Int) (W : World) (s : List Int) (S : Nat → Prop) : Prop :=
  ∃ v, One W pg (.int .i64 G) ∧ One W pe v ∧ W.ownsRow (pe + 1) 3 1 v s.length (intL s) ∧ ∀ b, S b ↔ b = pe ∨ v.ownBlock = some b

theorem eg_exc1 : ∀ args w, (callFunc 28 args).run Try.prog w = .ok (.enter 28 args) w := enters_of Try.func28 (by kernel_rfl) rfl
set_option maxRecDepth 100000 in
set_option maxHeartbeats 3200000 in
theorem exc1_any (pg pe : Nat) (G : Int) (d1 : pg < pe) (W : World) (s : List Int) (S : Nat → Prop) (n : Nat) (r : Int) (hH : pe + 1 ≤ W.heap.size) (hI : EI pg pe G W s S) (hs : s.length ≤ 40) :
    Calls Try.prog 28 #[.int .i64 (n : Int), .int .i64 r, .pointer (some ⟨pg, 0, none⟩), .pointer (some ⟨pe, 0, none⟩)] W fun e W' => e = .returned (.tuple #[]) ∧ ∃ S', EI pg pe G W' (exStep G s (n, r)) S' ∧ Kept S none W W' ∧ ∀ b, S' b → S b ∨ W.heap.size ≤ b := by
  obtain ⟨pv, og, oe, own, hS⟩ := hI
  obtain ⟨pa, pc, rfl⟩ := own_formQ own
  have HS := Lib.hid hS
  have OG := Lib.hid og
  have OE := Lib.hid oe
  have ON := Lib.hid own
  have c1 := og.c0
  have c2 := oe.c0
  have cl1 := og.lt
  have cl2 := oe.lt
  have oez := oe.f0
  have hlow := own_low own
  have HLO := Lib.hid hlow
  clear og oe own hS hlow
  by_cases hr : r < G
  · have HF := Lib.hid (show exStep G s (n, r) = s ++ [(n : Int)] from if_pos hr)
    have hrb : decide (r < G) = true := decide_eq_true hr
    clear hr
    go_enter Try.func28, Try.ntmps28
    have Z2 := Lib.hid (OE.out.alloc (.cells #[.int .i64 (n : Int)] 3))
    have B2 := Lib.hid ((Below.refl W.heap.size W).alloc (Nat.le_refl _) (.cells #[.int .i64 (n : Int)] 3))
    have q1 := own_below ON.out ((Below.refl W.heap.size W).alloc (Nat.le_refl _) (.cells #[.int .i64 (n : Int)] 3))
    have q2 : pe + 1 ≤ (W.alloc (.cells #[.int .i64 (n : Int)] 3)).heap.size := by simp; omega
    have q3 : (W.alloc (.cells #[.int .i64 (n : Int)] 3)).cell? ⟨W.heap.size, 0, none⟩ = some (.int .i64 (n : Int)) := by simp
    have q4 : s.length ≤ 100000 := by omega
    have Q1 := Lib.hid q1
    have Q2 := Lib.hid q2
    have Q3 := Lib.hid q3
    have Q4 := Lib.hid q4
    clear q1 q2 q3 q4
    go_wp2_with (at_builtin; refine wpList_append_int rfl (.tmp 9) (.tmp 11) rfl (pe + 1) (.slice pa s.length pc) s.length s rfl Q1.out W.heap.size (n : Int) rfl Q3.out Q4.out Q2.out ?_; intro v4 W4 ho4 hg4 ha4; obtain ⟨ga, gc, rfl⟩ := own_formQ ho4; have Z4 := Z2.out.grown hg4 (fun e => by have := HLO.out pe e.symm; omega); have k4 := Z4.c0; have z4 := Z4.f0; have l4 := Z4.lt)
    have hv4 : ∀ q, (Value.slice ga (s.length + 1) gc).ownBlock = some q → q ≠ pe := fun q hq e => by
      rcases ha4 with h9 | h9
      · rw [h9] at hq; have := HLO.out q hq; omega
      · rw [h9] at hq; simp at hq; omega
    have FIN : EI pg pe G (W4.setCell ⟨pe, 0, none⟩ (.slice ga (s.length + 1) gc)) (exStep G s (n, r)) (fun b => b = pe ∨ (Value.slice ga (s.length + 1) gc).ownBlock = some b) := by
      refine ⟨_, ?_, Z4.put _, ?_, fun b => Iff.rfl⟩
      · exact ((OG.out.alloc _).grown hg4 (fun e => by have := HLO.out pg e.symm; omega)).far (by simp; omega) _
      · rw [HF.out, List.length_append]
        exact own_block ho4 (fun q hq hl => Below.heap_setCell _ _ _ _ (fun e => hv4 q hq e))
    have KEP : Kept S none W (W4.setCell ⟨pe, 0, none⟩ (.slice ga (s.length + 1) gc)) := by
      have k0 : Kept S none W W4 := ⟨hg4.os.trans B2.out.os, hg4.tape.trans B2.out.tape, hg4.output.trans B2.out.output, Nat.le_trans B2.out.size hg4.size, fun k hk hS _ => by
        rw [hg4.block k (Nat.lt_of_lt_of_le hk B2.out.size) (fun e => hS ((HS.out k).2 (.inr e.symm))), B2.out.block k hk]⟩
      exact k0.set ((HS.out pe).2 (.inl rfl)) _
    have NEW : ∀ b, (b = pe ∨ (Value.slice ga (s.length + 1) gc).ownBlock = some b) → S b ∨ W.heap.size ≤ b := by
      rintro b (h | h)
      · exact .inl ((HS.out b).2 (.inl h))
      · rcases ha4 with h9 | h9
        · exact .inl ((HS.out _).2 (.inr (by rw [← h9]; exact h)))
        · rw [h9] at h; injection h with h; simp at h; exact .inr (by omega)
    have FF := Lib.hid FIN
    have KK := Lib.hid KEP
    have NN := Lib.hid NEW
    clear FIN KEP NEW Z4 hv4 ho4 hg4 ha4
    go_wp2
    go_end0
    exact ⟨rfl, _, FF.out, KK.out, NN.out⟩
  · have HF := Lib.hid (show exStep G s (n, r) = s from if_neg hr)
    have hrb : decide (r < G) = false := decide_eq_false hr
    clear hr
    go_enter Try.func28, Try.ntmps28
    go_wp2
    go_end0
    exact ⟨rfl, S, by rw [HF.out]; exact ⟨_, OG.out, OE.out, ON.out, HS.out⟩, Kept.refl _ _ _, fun b hb => .inl hb⟩
theorem visE (pg pe : Nat) (G : Int) (d1 : pg < pe) : VisQ 28 #[.pointer (some ⟨pg, 0, none⟩), .pointer (some ⟨pe, 0, none⟩)] (pe + 1) (EI pg pe G) (exStep G) (fun s => s.length ≤ 40) := by
  refine ⟨eg_exc1, fun W s S hI b hb => ?_, fun W W' s S hI hb hS => ?_, fun W s S n r hH hI hP _ _ _ => exc1_any pg pe G d1 W s S n r hH hI hP⟩
  · obtain ⟨pv, _, oe, own, hS⟩ := hI
    rcases (hS b).1 hb with h | h
    · rw [h]; exact oe.lt
    · exact own_in own b h
  · obtain ⟨pv, og, oe, own, hs⟩ := hI
    exact ⟨pv, og.below hb (by omega), oe.below hb (by omega), own_block own (fun g hg _ => hS g ((hs g).2 (.inr hg))), hs⟩

/-- What quota.Exceeded returns: the fault, or a new row of directories. -/
def ExcPost (t : Tr) (n size : Int) (w : World) (e : Ending) (w' : World) : Prop :=
  ((fileF t n size).1 ≠ 0 ∧ e = .returned (.tuple #[.slice none 0 0, faultV (fileF t n size).1 (fileF t n size).2]) ∧ Below w.heap.size w w') ∨
    ((fileF t n size).1 = 0 ∧ ∃ v, e = .returned (.tuple #[v, faultV 0 0]) ∧ w'.ownsRow w.heap.size 3 1 v (exL t n.toNat (size - (nod t n.toNat).dl) t.length).length (intL (exL t n.toNat (size - (nod t n.toNat).dl) t.length)) ∧ Below w.heap.size w w')

set_option maxRecDepth 100000 in
set_option maxHeartbeats 3200000 in
theorem exceeded_any (a : Option Addr) (c : Nat) (t : Tr) (n size : Int) (w : World) (h : Nods w w.heap.size a c t) :
    Calls Try.prog 11 #[.agg #[.slice a t.length c], .int .i64 n, .int .i64 size] w (ExcPost t n size w) := by
  have C1 := Lib.hid (fun W (hb : Below w.heap.size w W) => checkFile_any a c t n size W (h.up hb))
  have T0 := Lib.hid (show One ((w.alloc (.cells #[.slice a t.length c] 24)).alloc (.cells #[.int .i64 0, .int .i64 0] 27)) w.heap.size (.slice a t.length c) from (One.new w _ _).alloc _)
  have F0 := Lib.hid (show FBox ((w.alloc (.cells #[.slice a t.length c] 24)).alloc (.cells #[.int .i64 0, .int .i64 0] 27)) (w.heap.size + 1) 0 0 from (FBox.new (w.alloc _) 0 0 _).at_ (by simp))
  have B0 := Lib.hid (show Below w.heap.size w ((w.alloc (.cells #[.slice a t.length c] 24)).alloc (.cells #[.int .i64 0, .int .i64 0] 27)) from ((Below.refl _ _).alloc (Nat.le_refl _) _).alloc (by first | omega | (simp; done) | (simp; omega)) _)
  unfold ExcPost
  by_cases hq : (fileF t n size).1 = 0
  · obtain ⟨hv, ⟨m, rfl, hm, hk⟩, hs0, hs1, hz⟩ := fileF_zero hq
    obtain ⟨hd, p4⟩ := valT_ok hv
    have H1 := Lib.hid (Pass.ok1 hd (p4.mono (by omega)))
    have HQ := Lib.hid hq
    rw [Int.toNat_natCast]
    have h40 := H1.out.le
    have hdl := (H1.out.fine m).dl
    rw [hz] at C1
    have mlz : (m : Int) < (t.length : Int) := by omega
    have mz : (0 : Int) ≤ (m : Int) := Int.natCast_nonneg _
    obtain ⟨b, o, ve, vd, va, vx, rfl, hb, hc, hs⟩ := h.one hm
    obtain ⟨da, dc, rfl, _⟩ := hs.dl
    have c3 := hc.c3
    have HV := Lib.hid (fun W (hb : Below w.heap.size w W) (pg pe : Nat) (d1 : pg < pe) (d2 : W.heap.size = pe + 1) (d3 : w.heap.size ≤ pe) (hI : EI pg pe (size - (nod t m).dl) W [] (fun x => x = pe)) =>
      visitQ_any (some ⟨b, o, none⟩) c t m w.heap.size W (by rw [d2]; exact visE pg pe (size - (nod t m).dl) d1) hd (p4.mono (by omega)) hm (h.below hb) hb.size [] (fun x => x = pe) hI (fun x hx => by omega) (fun k hk9 => by have := exL_len t m (size - (nod t m).dl) k; unfold exL at this; omega))
    clear hc hs h hz hq hv hd p4 hk
    generalize (nod t m).dl = gd at *
    have HXL := Lib.hid (show exL t m (size - (gd : Int)) t.length = (qL t m t.length).foldl (exStep (size - (gd : Int))) [] from rfl)
    have hwr : IntKind.i64.wrap (size - (gd : Int)) = size - (gd : Int) := IntWalk.i64_in _ (by omega)
    go_enter Try.func11, Try.ntmps11
    go_wp2_with fail
    refine (C1.out _ B0.out).mono ?_
    rintro e W1 ⟨rfl, b1⟩
    have F1 := Lib.hid (F0.out.below b1 F0.out.lt)
    have B1 := Lib.hid (B0.out.trans (b1.mono B0.out.size))
    have T1 := Lib.hid (T0.out.below b1 T0.out.lt)
    have tc := T1.out.c0
    have tl := T1.out.lt
    have d3 := (B1.out.cell (p := ⟨b, o + m * 8 + 3, none⟩) hb).trans c3
    have hbl : b < W1.heap.size := Nat.lt_of_lt_of_le hb B1.out.size
    have hs1 := B1.out.size
    clear b1
    unfold faultV
    have tw1 := (T1.out.alloc (.cells #[.int .i64 0, .int .i64 0] 27)).c0
    have tw2 := ((T1.out.alloc (.cells #[.int .i64 0, .int .i64 0] 27)).alloc (.cells #[.int .i64 (size - (gd : Int))] 3)).c0
    have tw3 := (((T1.out.alloc (.cells #[.int .i64 0, .int .i64 0] 27)).alloc (.cells #[.int .i64 (size - (gd : Int))] 3)).alloc (.cells #[.slice none 0 0] 25)).c0
    have tl1 : w.heap.size < W1.heap.size + 1 := by omega
    have tl2 : w.heap.size < W1.heap.size + 1 + 1 := by omega
    have tl3 : w.heap.size < W1.heap.size + 1 + 1 + 1 := by omega
    go_wp2_with fail
    clear tw1 tw2 tw3
    have BN := Lib.hid (show Below W1.heap.size W1 (((W1.alloc (.cells #[.int .i64 0, .int .i64 0] 27)).alloc (.cells #[.int .i64 (size - (gd : Int))] 3)).alloc (.cells #[.slice none 0 0] 25)) from (((Below.refl _ _).alloc (Nat.le_refl _) _).alloc (by first | omega | (simp; done) | (simp; omega)) _).alloc (by first | omega | (simp; done) | (simp; omega)) _)
    have IN := Lib.hid (show EI (W1.heap.size + 1) (W1.heap.size + 1 + 1) (size - (gd : Int)) (((W1.alloc (.cells #[.int .i64 0, .int .i64 0] 27)).alloc (.cells #[.int .i64 (size - (gd : Int))] 3)).alloc (.cells #[.slice none 0 0] 25)) [] (fun x => x = W1.heap.size + 1 + 1) from
      ⟨.slice none 0 0, ((One.new (W1.alloc _) _ _).alloc _).at_ (by simp), (One.new ((W1.alloc _).alloc _) _ _).at_ (by simp), World.ownsRow_nil _ _ _ _, fun b => ⟨fun h => .inl h, fun h => by
        rcases h with h | h
        · exact h
        · simp [Value.ownBlock] at h⟩⟩)
    have BW := Lib.hid (B1.out.trans (BN.out.mono hs1))
    have FW := Lib.hid (F1.out.below BN.out F1.out.lt)
    have hF1l := F1.out.lt
    refine (HV.out _ BW.out (W1.heap.size + 1) (W1.heap.size + 1 + 1) (by omega) (by simp) (by omega) IN.out).mono ?_
    rintro e W5 ⟨rfl, S', ⟨v, og, oe, own, _⟩, K, _⟩
    have F5 := Lib.hid (FW.out.of_block (K.block _ FW.out.lt (by omega) (by simp)))
    have B5 := Lib.hid (BW.out.trans (K.below BW.out.size (fun x hx => by omega) (by simp)))
    have OW := Lib.hid own
    obtain ⟨l9, a0, a1, f0, f1⟩ := F5.out
    have oc := oe.c0
    have ol := oe.lt
    have hne : w.heap.size + 1 ≠ W1.heap.size + 1 + 1 := by omega
    clear K og oe own
    go_wp2
    have HO := own_leQ (own_block OW.out (w' := (W5.setCell ⟨w.heap.size + 1, 0, none⟩ (.int .i64 0)).setCell ⟨w.heap.size + 1, 1, none⟩ (.int .i64 0)) (fun q hq hl => by
      have := own_low OW.out q hq
      exact (Below.heap_setCell _ _ _ _ (by simp; omega)).trans (Below.heap_setCell _ _ _ _ (by simp; omega)))) (base' := w.heap.size) (by omega)
    exact bodyPost_ret (v := .tuple #[v, faultV 0 0]) (by simp [results, Try.results11, faultV, go_sem, a0, a1, l9]) rfl (.inr ⟨HQ.out, v, rfl, by rw [HXL.out]; exact HO, (B5.out.setCell (by simp) _).setCell (by simp) _⟩)
  · have HQ := Lib.hid hq
    have hq1 : ((fileF t n size).1 != 0) = true := by simpa using hq
    have hq2 : ((fileF t n size).1 == 0) = false := by simpa using hq
    clear h hq
    unfold faultV at C1
    generalize (fileF t n size).1 = q at *
    generalize (fileF t n size).2 = r at *
    go_enter Try.func11, Try.ntmps11
    go_wp2_with fail
    refine (C1.out _ B0.out).mono ?_
    rintro e W1 ⟨rfl, b1⟩
    have F1 := Lib.hid (F0.out.below b1 F0.out.lt)
    have B1 := Lib.hid (B0.out.trans (b1.mono B0.out.size))
    obtain ⟨l9, a0, a1, f0, f1⟩ := F1.out
    have hs1 := B1.out.size
    clear b1
    go_wp2
    go_region
    go_wp2
    exact bodyPost_ret (v := .tuple #[.slice none 0 0, faultV q r]) (by simp [results, Try.results11, faultV, go_sem, a0, a1, l9]) rfl (.inl ⟨HQ.out, rfl, by repeat (first | exact B1.out | refine Below.setCell ?_ (by first | omega | (simp; done) | (simp; omega)) _ | refine Below.alloc ?_ (by first | omega | (simp; done) | (simp; omega)) _ | refine Below.drew ?_)⟩)

end Go.Proofs.Ytndhhofidkaomaa

/- quota.Remaining at every tree and file number. Conditions: the tree's cells lie in memory as they read; the number is an int's. -/

set_option linter.all false
namespace Go.Proofs.Ytndhhofidkaomaa
open Go.RowKit

def remStep (s : Int) (p : Nat × Int) : Int := min s p.2
/-- How many bytes the file can grow. -/
def remF (t : Tr) (file k : Nat) : Int := (qL t file k).foldl remStep (200 - (nod t file).dl)
theorem rem_fold : ∀ (l : List (Nat × Int)) (s r : Int), r ≤ l.foldl remStep s ↔ r ≤ s ∧ ∀ p ∈ l, r ≤ p.2
  | [], s, r => by simp
  | p :: l, s, r => by
    rw [List.foldl_cons, rem_fold l]
    have : r ≤ remStep s p ↔ r ≤ s ∧ r ≤ p.2 := by unfold remStep; omega
    rw [this]
    simp only [List.mem_cons, forall_eq_or_imp]
    exact ⟨fun ⟨⟨h1, h2⟩, h3⟩ => ⟨h1, h2, h3⟩, fun ⟨h1, h2, h3⟩ => ⟨⟨h1, h2⟩, h3⟩⟩
theorem remF_le {t : Tr} {file k : Nat} : remF t file k ≤ 200 - (nod t file).dl := ((rem_fold (qL t file k) _ _).1 (Int.le_refl (remF t file k))).1

/-- What Remaining's visitor has: the number in box pr. -/
def RI (pr : Nat) (W : World) (s : Int) (S : Nat → Prop) : Prop := One W pr (.int .i64 s) ∧ ∀ b, S b ↔ b = pr
theorem eg_rem1 : ∀ args w, (callFunc 30 args).run Try.prog w = .ok (.enter 30 args) w := enters_of Try.func30 (by kernel_rfl) rfl
set_option maxRecDepth 100000 in
set_option maxHeartbeats 1600000 in
theorem rem1_any (pr : Nat) (W : World) (s : Int) (S : Nat → Prop) (n : Nat) (r : Int) (hI : RI pr W s S) :
    Calls Try.prog 30 #[.int .i64 (n : Int), .int .i64 r, .pointer (some ⟨pr, 0, none⟩)] W fun e W' => e = .returned (.tuple #[]) ∧ ∃ S', RI pr W' (remStep s (n, r)) S' ∧ Kept S none W W' ∧ ∀ b, S' b → S b ∨ W.heap.size ≤ b := by
  obtain ⟨oe, hS⟩ := hI
  have HS := Lib.hid hS
  have OE := Lib.hid oe
  have c2 := oe.c0
  have cl2 := oe.lt
  have oez := oe.f0
  clear oe hS
  go_enter Try.func30, Try.ntmps30
  go_wp2
  go_end0
  exact ⟨rfl, S, ⟨OE.out.set _, HS.out⟩, (show Kept S none W W from Kept.refl _ _ _).set ((HS.out pr).2 rfl) _, fun b hb => .inl hb⟩
theorem visR (pr : Nat) : VisQ 30 #[.pointer (some ⟨pr, 0, none⟩)] (pr + 1) (RI pr) remStep (fun _ => True) := by
  refine ⟨eg_rem1, fun W s S hI b hb => ?_, fun W W' s S hI hb hS => ?_, fun W s S n r hH hI hP _ _ _ => rem1_any pr W s S n r hI⟩
  · rw [(hI.2 b).1 hb]; exact hI.1.lt
  · exact ⟨hI.1.below hb (by omega), hI.2⟩

/-- What quota.Remaining returns: the fault, or the number. -/
def RemPost (t : Tr) (n : Int) (w : World) (e : Ending) (w' : World) : Prop :=
  ((fileF t n 0).1 ≠ 0 ∧ e = .returned (.tuple #[.int .i64 0, faultV (fileF t n 0).1 (fileF t n 0).2]) ∧ Below w.heap.size w w') ∨
    ((fileF t n 0).1 = 0 ∧ e = .returned (.tuple #[.int .i64 (remF t n.toNat t.length), faultV 0 0]) ∧ Below w.heap.size w w')

set_option maxRecDepth 100000 in
set_option maxHeartbeats 3200000 in
theorem remaining_any (a : Option Addr) (c : Nat) (t : Tr) (n : Int) (w : World) (h : Nods w w.heap.size a c t) :
    Calls Try.prog 16 #[.agg #[.slice a t.length c], .int .i64 n] w (RemPost t n w) := by
  have C1 := Lib.hid (fun W (hb : Below w.heap.size w W) => checkFile_any a c t n 0 W (h.up hb))
  have T0 := Lib.hid (show One ((w.alloc (.cells #[.slice a t.length c] 24)).alloc (.cells #[.int .i64 0, .int .i64 0] 27)) w.heap.size (.slice a t.length c) from (One.new w _ _).alloc _)
  have F0 := Lib.hid (show FBox ((w.alloc (.cells #[.slice a t.length c] 24)).alloc (.cells #[.int .i64 0, .int .i64 0] 27)) (w.heap.size + 1) 0 0 from (FBox.new (w.alloc _) 0 0 _).at_ (by simp))
  have B0 := Lib.hid (show Below w.heap.size w ((w.alloc (.cells #[.slice a t.length c] 24)).alloc (.cells #[.int .i64 0, .int .i64 0] 27)) from ((Below.refl _ _).alloc (Nat.le_refl _) _).alloc (by first | omega | (simp; done) | (simp; omega)) _)
  unfold RemPost
  by_cases hq : (fileF t n 0).1 = 0
  · obtain ⟨hv, ⟨m, rfl, hm, hk⟩, _, _, hz⟩ := fileF_zero hq
    obtain ⟨hd, p4⟩ := valT_ok hv
    have H1 := Lib.hid (Pass.ok1 hd (p4.mono (by omega)))
    have HQ := Lib.hid hq
    rw [Int.toNat_natCast]
    have h40 := H1.out.le
    have hdl := (H1.out.fine m).dl
    rw [hz] at C1
    have mlz : (m : Int) < (t.length : Int) := by omega
    have mz : (0 : Int) ≤ (m : Int) := Int.natCast_nonneg _
    obtain ⟨b, o, ve, vd, va, vx, rfl, hb, hc, hs⟩ := h.one hm
    obtain ⟨da, dc, rfl, _⟩ := hs.dl
    have c3 := hc.c3
    have HV := Lib.hid (fun W (hb : Below w.heap.size w W) (pr : Nat) (d2 : W.heap.size = pr + 1) (d3 : w.heap.size ≤ pr) (hI : RI pr W (200 - (nod t m).dl) (fun x => x = pr)) =>
      visitQ_any (some ⟨b, o, none⟩) c t m w.heap.size W (show VisQ 30 #[.pointer (some ⟨pr, 0, none⟩)] W.heap.size (RI pr) remStep (fun _ => True) from by rw [d2]; exact visR pr) hd (p4.mono (by omega)) hm (h.below hb) hb.size (200 - (nod t m).dl) (fun x => x = pr) hI (fun x hx => by omega) (fun k hk9 => trivial))
    have HXL := Lib.hid (show remF t m t.length = (qL t m t.length).foldl remStep (200 - (nod t m).dl) from rfl)
    clear hc hs h hz hq hv hd p4 hk
    generalize (nod t m).dl = gd at *
    have hwr : IntKind.i64.wrap (200 - (gd : Int)) = 200 - (gd : Int) := IntWalk.i64_in _ (by omega)
    go_enter Try.func16, Try.ntmps16
    go_wp2_with fail
    refine (C1.out _ B0.out).mono ?_
    rintro e W1 ⟨rfl, b1⟩
    have F1 := Lib.hid (F0.out.below b1 F0.out.lt)
    have B1 := Lib.hid (B0.out.trans (b1.mono B0.out.size))
    have T1 := Lib.hid (T0.out.below b1 T0.out.lt)
    have tc := T1.out.c0
    have tl := T1.out.lt
    have d3 := (B1.out.cell (p := ⟨b, o + m * 8 + 3, none⟩) hb).trans c3
    have hbl : b < W1.heap.size := Nat.lt_of_lt_of_le hb B1.out.size
    have hs1 := B1.out.size
    clear b1
    unfold faultV
    have tw1 := (T1.out.alloc (.cells #[.int .i64 0, .int .i64 0] 27)).c0
    have tw2 := ((T1.out.alloc (.cells #[.int .i64 0, .int .i64 0] 27)).alloc (.cells #[.int .i64 (200 - (gd : Int))] 3)).c0
    have tl1 : w.heap.size < W1.heap.size + 1 := by omega
    have tl2 : w.heap.size < W1.heap.size + 1 + 1 := by omega
    go_wp2_with fail
    clear tw1 tw2
    have BN := Lib.hid (show Below W1.heap.size W1 ((W1.alloc (.cells #[.int .i64 0, .int .i64 0] 27)).alloc (.cells #[.int .i64 (200 - (gd : Int))] 3)) from ((Below.refl _ _).alloc (Nat.le_refl _) _).alloc (by first | omega | (simp; done) | (simp; omega)) _)
    have IN := Lib.hid (show RI (W1.heap.size + 1) ((W1.alloc (.cells #[.int .i64 0, .int .i64 0] 27)).alloc (.cells #[.int .i64 (200 - (gd : Int))] 3)) (200 - (gd : Int)) (fun x => x = W1.heap.size + 1) from
      ⟨(One.new (W1.alloc _) _ _).at_ (by simp), fun b => Iff.rfl⟩)
    have BW := Lib.hid (B1.out.trans (BN.out.mono hs1))
    have FW := Lib.hid (F1.out.below BN.out F1.out.lt)
    have hF1l := F1.out.lt
    refine (HV.out _ BW.out (W1.heap.size + 1) (by simp) (by omega) IN.out).mono ?_
    rintro e W5 ⟨rfl, S', ⟨oe, _⟩, K, _⟩
    have F5 := Lib.hid (FW.out.of_block (K.block _ FW.out.lt (by omega) (by simp)))
    have B5 := Lib.hid (BW.out.trans (K.below BW.out.size (fun x hx => by omega) (by simp)))
    obtain ⟨l9, a0, a1, f0, f1⟩ := F5.out
    rw [← HXL.out] at oe
    have oc := oe.c0
    have ol := oe.lt
    clear K oe
    go_wp2
    exact bodyPost_ret (v := .tuple #[.int .i64 (remF t m t.length), faultV 0 0]) (by simp [results, Try.results16, faultV, go_sem, a0, a1, l9]) rfl (.inr ⟨HQ.out, rfl, (B5.out.setCell (by simp) _).setCell (by simp) _⟩)
  · have HQ := Lib.hid hq
    have hq1 : ((fileF t n 0).1 != 0) = true := by simpa using hq
    have hq2 : ((fileF t n 0).1 == 0) = false := by simpa using hq
    clear h hq
    unfold faultV at C1
    generalize (fileF t n 0).1 = q at *
    generalize (fileF t n 0).2 = r at *
    go_enter Try.func16, Try.ntmps16
    go_wp2_with fail
    refine (C1.out _ B0.out).mono ?_
    rintro e W1 ⟨rfl, b1⟩
    have F1 := Lib.hid (F0.out.below b1 F0.out.lt)
    have B1 := Lib.hid (B0.out.trans (b1.mono B0.out.size))
    obtain ⟨l9, a0, a1, f0, f1⟩ := F1.out
    have hs1 := B1.out.size
    clear b1
    go_wp2
    go_region
    go_wp2
    exact bodyPost_ret (v := .tuple #[.int .i64 0, faultV q r]) (by simp [results, Try.results16, faultV, go_sem, a0, a1, l9]) rfl (.inl ⟨HQ.out, rfl, by repeat (first | exact B1.out | refine Below.setCell ?_ (by first | omega | (simp; done) | (simp; omega)) _ | refine Below.alloc ?_ (by first | omega | (simp; done) | (simp; omega)) _ | refine Below.drew ?_)⟩)

end Go.Proofs.Ytndhhofidkaomaa

/- The law QuotaUsageBounds returns true at every tree. Conditions: the tree's cells lie in memory as they read. -/

set_option linter.all false
namespace Go.Proofs.Ytndhhofidkaomaa
open Go.RowKit

theorem FBox.drewNQ {w : World} {n : Nat} {a b : Int} (h : FBox w n a b) (k : Nat) : FBox (w.drewN k) n a b := by
  obtain ⟨h1, h2, h3, h4, h5⟩ := h; exact ⟨h1, h2, h3, h4, h5⟩
/-- The slice at ax (length m) is nil, where the tree has a fault, or else a row of n numbers. -/
def IntsV (q : Int) (n : Nat) (f : Nat → Nat) (w : World) (ax : Option Addr) (m : Nat) : Prop :=
  (q ≠ 0 ∧ ax = none ∧ m = 0) ∨ (q = 0 ∧ ∃ R, ax = some ⟨R, 0, none⟩ ∧ m = n ∧ Row w R n (fun j => .int .i64 (f j : Nat)))
theorem IntsV.below {q : Int} {n : Nat} {f : Nat → Nat} {w z : World} {ax : Option Addr} {m : Nat} (h : IntsV q n f w ax m) (hb : Below w.heap.size w z) : IntsV q n f z ax m := by
  rcases h with h | ⟨h0, R, h1, h2, h3⟩
  · exact .inl h
  · exact .inr ⟨h0, R, h1, h2, h3.below hb h3.lt⟩
theorem use_sample : ∀ j, j < 3 → usgN sampleT j = 3 := by decide +kernel
theorem use_sample_any (b : Nat) (w : World) (h : Nods w w.heap.size (some ⟨b, 0, none⟩) 3 sampleT) :
    Calls Try.prog 8 #[.agg #[.slice (some ⟨b, 0, none⟩) sampleT.length 3]] w fun e w' => ∃ R, e = .returned (.tuple #[.slice (some ⟨R, 0, none⟩) 3 3, .agg #[.int .i64 0, .int .i64 0]]) ∧ Row w' R 3 (fun _ => .int .i64 3) ∧ Below w.heap.size w w' := by
  refine (use_any (some ⟨b, 0, none⟩) 3 sampleT w h).mono ?_
  rintro e w' (⟨h1, _⟩ | ⟨_, R, _, h2, h3, h4⟩)
  · exact absurd (by rw [valT_sample]) h1
  · exact ⟨R, h2, h3.ext (fun j hj => by rw [use_sample j hj]; rfl), h4⟩
theorem byV_any (a : Option Addr) (c : Nat) (t : Tr) (w : World) (h : Nods w w.heap.size a c t) :
    Calls Try.prog 18 #[.agg #[.slice a t.length c]] w fun e w' => ∃ ax m, e = .returned (.tuple #[.slice ax m m, .agg #[.int .i64 (valT t).1, .int .i64 (valT t).2]]) ∧ IntsV (valT t).1 8 (fun u => ownTo t t.length u) w' ax m ∧ Below w.heap.size w w' := by
  refine (byOwner_any a c t w h).mono ?_
  rintro e w' (⟨h1, h2, h3⟩ | ⟨h1, R, _, h2, h3, h4⟩)
  · exact ⟨none, 0, h2, .inl ⟨h1, rfl, rfl⟩, h3⟩
  · exact ⟨_, 8, by rw [valT_zero h1]; exact h2, .inr ⟨h1, R, rfl, rfl, h3⟩, h4⟩
theorem useV_any (a : Option Addr) (c : Nat) (t : Tr) (w : World) (h : Nods w w.heap.size a c t) :
    Calls Try.prog 8 #[.agg #[.slice a t.length c]] w fun e w' => ∃ ax m, e = .returned (.tuple #[.slice ax m m, .agg #[.int .i64 (valT t).1, .int .i64 (valT t).2]]) ∧ IntsV (valT t).1 t.length (usgN t) w' ax m ∧ Below w.heap.size w w' := by
  refine (use_any a c t w h).mono ?_
  rintro e w' (⟨h1, h2, h3⟩ | ⟨h1, R, _, h2, h3, h4⟩)
  · exact ⟨none, 0, h2, .inl ⟨h1, rfl, rfl⟩, h3⟩
  · exact ⟨_, t.length, by rw [valT_zero h1]; exact h2, .inr ⟨h1, R, rfl, rfl, h3⟩, h4⟩

set_option maxRecDepth 100000 in
set_option maxHeartbeats 6400000 in
theorem lawBounds_any (a : Option Addr) (c : Nat) (t : Tr) (w : World) (h : Nods w w.heap.size a c t) :
    Calls Try.prog 7 #[.agg #[.slice a t.length c]] w fun e w' => e = .returned (.bool true) ∧ Below w.heap.size w w' := by
  have C1 := Lib.hid (fun W (hb : Below w.heap.size w W) => byV_any a c t W (h.up hb))
  have C2 := Lib.hid (fun W (hb : Below w.heap.size w W) => useV_any a c t W (h.up hb))
  have T0 := Lib.hid (One.new w (.slice a t.length c) 24)
  have B0 := Lib.hid ((Below.refl w.heap.size w).alloc (Nat.le_refl _) (.cells #[.slice a t.length c] 24))
  have H := Lib.hid h
  have HV := Lib.hid (fun (h0 : (valT t).1 = 0) => (show Head t ∧ Pass t 4 ∧ (valT t).2 = 0 from ⟨(valT_ok h0).1, (valT_ok h0).2, by rw [valT_zero h0]⟩))
  clear h
  generalize (valT t).1 = q at C1 C2 HV
  generalize (valT t).2 = r at C1 C2 HV
  go_enter Try.func7, Try.ntmps7
  go_wp2_with fail
  refine (C1.out _ B0.out).mono ?_
  rintro e W1 ⟨ax, m1, rfl, hv1, b1⟩
  have T1 := Lib.hid ((T0.out.below b1 T0.out.lt).alloc (.cells #[.int .i64 q, .int .i64 r] 27))
  have F1 := Lib.hid (FBox.new W1 q r 27)
  have B1 := Lib.hid ((B0.out.trans (b1.mono B0.out.size)).alloc (Nat.le_trans B0.out.size b1.size) (.cells #[.int .i64 q, .int .i64 r] 27))
  have V1 := Lib.hid (hv1.below ((Below.refl W1.heap.size W1).alloc (Nat.le_refl _) (.cells #[.int .i64 q, .int .i64 r] 27)))
  have tc := (T0.out.below b1 T0.out.lt).c0
  have tl := (T0.out.below b1 T0.out.lt).lt
  clear b1 hv1
  go_wp2_with fail
  refine (C2.out _ B1.out).mono ?_
  rintro e W2 ⟨au, m2, rfl, hv2, b2⟩
  have T2 := Lib.hid ((T1.out.below b2 T1.out.lt).alloc (.cells #[.int .i64 q, .int .i64 r] 27))
  have F2 := Lib.hid ((F1.out.below b2 F1.out.lt).alloc (.cells #[.int .i64 q, .int .i64 r] 27))
  have X2 := Lib.hid (FBox.new W2 q r 27)
  have B2 := Lib.hid ((B1.out.trans (b2.mono B1.out.size)).alloc (Nat.le_trans B1.out.size b2.size) (.cells #[.int .i64 q, .int .i64 r] 27))
  have V2 := Lib.hid (hv2.below ((Below.refl W2.heap.size W2).alloc (Nat.le_refl _) (.cells #[.int .i64 q, .int .i64 r] 27)))
  have V1b := Lib.hid ((V1.out.below b2).below ((Below.refl W2.heap.size W2).alloc (Nat.le_refl _) (.cells #[.int .i64 q, .int .i64 r] 27)))
  clear b2 hv2 tc tl T0 T1 F1 B0 B1 C2 C1 V1
  go_wp2_with fail
  refine (sample_any _).mono ?_
  rintro e W3 ⟨sb, rfl, hn3, b3⟩
  have T3 := Lib.hid (T2.out.below b3 T2.out.lt)
  have F3 := Lib.hid (F2.out.below b3 F2.out.lt)
  have X3 := Lib.hid (X2.out.below b3 X2.out.lt)
  have B3 := Lib.hid (B2.out.trans (b3.mono B2.out.size))
  have V13 := Lib.hid (V1b.out.below b3)
  have V23 := Lib.hid (V2.out.below b3)
  have HE := Lib.hid (use_sample_any sb W3 hn3)
  clear b3 hn3 T2 F2 X2 B2 V1b V2
  go_wp2_with fail
  refine HE.out.mono ?_
  rintro e W4 ⟨R, rfl, hrow, b4⟩
  have BN := Lib.hid (show Below W4.heap.size W4 ((W4.alloc (.cells #[.int .i64 0, .int .i64 0] 27)).alloc (.cells #[.int .i64 3, .int .i64 3, .int .i64 3] 3)) from ((Below.refl _ _).alloc (Nat.le_refl _) _).alloc (by first | omega | (simp; done) | (simp; omega)) _)
  have T4 := Lib.hid ((T3.out.below b4 T3.out.lt).below BN.out (by have := (T3.out.below b4 T3.out.lt).lt; exact this))
  have F4 := Lib.hid ((F3.out.below b4 F3.out.lt).below BN.out (by have := (F3.out.below b4 F3.out.lt).lt; exact this))
  have X4 := Lib.hid ((X3.out.below b4 X3.out.lt).below BN.out (by have := (X3.out.below b4 X3.out.lt).lt; exact this))
  have B4 := Lib.hid ((B3.out.trans (b4.mono B3.out.size)).trans (BN.out.mono (Nat.le_trans B3.out.size b4.size)))
  have V14 := Lib.hid ((V13.out.below b4).below BN.out)
  have V24 := Lib.hid ((V23.out.below b4).below BN.out)
  have HI := Lib.hid (intsSame_any R 0 3 (W4.heap.size + 1) 0 3 3 (fun _ => 3) ((W4.alloc (.cells #[.int .i64 0, .int .i64 0] 27)).alloc (.cells #[.int .i64 3, .int .i64 3, .int .i64 3] 3)) (by decide) (fun j hj => by rw [Nat.zero_add]; exact (BN.out.cell (p := ⟨R, j, none⟩) hrow.lt).trans (hrow.c j hj)) (fun j hj => by
    rw [Nat.zero_add]
    match j, hj with
    | 0, _ => exact new_cell (by simp) rfl
    | 1, _ => exact new_cell (by simp) rfl
    | 2, _ => exact new_cell (by simp) rfl))
  clear b4 hrow HE T3 F3 X3 B3 V13 V23
  go_wp2_with fail
  refine HI.out.mono ?_
  rintro e _ ⟨rfl, q5, rfl⟩
  have T5 := Lib.hid (T4.out.drewNQ q5)
  have F5 := Lib.hid (F4.out.drewNQ q5)
  have X5 := Lib.hid (X4.out.drewNQ q5)
  have B5 := Lib.hid (below_drewN B4.out q5)
  have V15 := Lib.hid (V14.out.below (below_drewN (Below.refl _ _) q5))
  have V25 := Lib.hid (V24.out.below (below_drewN (Below.refl _ _) q5))
  clear T4 F4 X4 B4 HI BN V14 V24
  generalize World.drewN ((W4.alloc (.cells #[.int .i64 0, .int .i64 0] 27)).alloc (.cells #[.int .i64 3, .int .i64 3, .int .i64 3] 3)) q5 = W5 at *
  obtain ⟨l8, t0, t1⟩ := T5.out
  obtain ⟨fl, f0, f1, fz0, fz1⟩ := F5.out
  obtain ⟨xl, x0, x1, xz0, xz1⟩ := X5.out
  have K1 := V15.out
  have K2 := V25.out
  unfold IntsV at K1 K2
  clear V15 V25
  by_cases hq : q = 0
  · obtain ⟨hd, p4, hr⟩ := HV.out hq
    rcases K1 with ⟨h0, _⟩ | ⟨_, R1, rfl, rfl, r1⟩
    · exact absurd hq h0
    rcases K2 with ⟨h0, _⟩ | ⟨_, R2, rfl, rfl, r2⟩
    · exact absurd hq h0
    subst hq hr
    have H1 := Lib.hid (Pass.ok1 hd (p4.mono (by omega)))
    have HBR := Lib.hid (byTo_root hd p4)
    have HBL := Lib.hid (fun k => byTo_le H1.out k)
    have HBS := Lib.hid (fun k => byTo_succ t k)
    have HOL := Lib.hid (fun u => ownTo_le H1.out u t.length)
    have HUL := Lib.hid (fun n => (show usgN t n ≤ 8000 from usg_le H1.out (visits t n)))
    have HUK := Lib.hid (fun n (hn : n < t.length) e (he : e ∈ kids t n) => usgN_kid hd (p4.mono (by omega)) hn he)
    have HUD := Lib.hid (fun n (hn : n < t.length) (hk : (nod t n).k = 1) => usgN_dir hd (p4.mono (by omega)) hn hk)
    have h40 := H1.out.le
    have hne := H1.out.ne
    have HR1 := Lib.hid r1
    have HR2 := Lib.hid r2
    have l1 := r1.lt
    have l2 := r2.lt
    clear HV hd p4 r1 r2
    go_wp2_with fail
    go_loopg [9, 10] 8 (fun gg s9 s10 wr => ∃ k : Nat, k ≤ 8 ∧ 8 - k ≤ gg ∧ s9 = .int .i64 (byTo t k : Nat) ∧ s10 = .int .i64 k ∧ W5 = wr)
    case atStart => exact ⟨0, by omega, by omega, by rw [byTo_zero]; rfl, rfl, rfl⟩
    case round =>
      obtain ⟨k, hk, hg, rfl, rfl, rfl⟩ := hrel
      by_cases hlt : k < 8
      · have hltz : (k : Int) < 8 := by omega
        have hi0 : (0 : Int) ≤ (k : Int) := Int.natCast_nonneg _
        have g0 := HR1.out.c k hlt
        have HS := Lib.hid (HBS.out k)
        have hb := HBL.out k
        have ho := HOL.out k
        generalize byTo t k = y at *
        generalize ownTo t t.length k = z at *
        have hwr : IntKind.i64.wrap ((y : Int) + (z : Int)) = (y : Int) + (z : Int) := IntWalk.i64_in _ (by omega)
        go_wp2_with fail
        go_roundg (8 - (k + 1))
        case measure => omega
        case rel => exact ⟨k + 1, by omega, by omega, by rw [HS.out]; go_num, by go_num, rfl⟩
      · obtain rfl : k = 8 := by omega
        rw [HBR.out]
        have g0 := HR2.out.c 0 hne
        have hz0 : (0 : Int) < (t.length : Int) := by omega
        go_wp2_with fail
        go_loopg [11, 12, 13, 14] t.length (fun gg s11 _ _ _ wr => ∃ k q : Nat, k ≤ t.length ∧ t.length - k ≤ gg ∧ s11 = .int .i64 k ∧ wr = W5.drewN q)
        case atStart => exact ⟨0, 0, by omega, by omega, rfl, rfl⟩
        case round =>
          obtain ⟨k, q, hk, hg, rfl, rfl⟩ := hrel
          clear g0
          by_cases hlt : k < t.length
          · have hltz : (k : Int) < (t.length : Int) := by omega
            have hi0 : (0 : Int) ≤ (k : Int) := Int.natCast_nonneg _
            have hm9 : t.length - (k + 1) < t.length - k := Nat.sub_lt_sub_left hlt (Nat.lt_succ_self k)
            obtain ⟨b, o, ve, vd, va, vx, rfl, hb, hc, hs⟩ := (H.out.below B5.out).one hlt
            obtain ⟨ea, ec, rfl, hec, hel, hef, hex⟩ := hs.es
            have h0 := hc.c0
            have h2 := hc.c2
            change (kids t k).length ≤ ec at hec
            change (kids t k).length ≤ 35184372088832 at hel
            change W5.cell? ⟨b, o + k * 8 + 2, none⟩ = some (.slice ea (kids t k).length ec) at h2
            have hk16 := (H1.out.fine k).len
            change (kids t k).length ≤ 16 at hk16
            have HEX := Lib.hid (show 0 < (kids t k).length → ∃ b o, ea = some ⟨b, o, none⟩ ∧ b < w.heap.size ∧ ∀ j, j < (kids t k).length →
              W5.cell? ⟨b, o + j * 2, none⟩ = some (.string ((kids t k).getD j D0).n) ∧ W5.cell? ⟨b, o + j * 2 + 1, none⟩ = some (.int .i64 ((kids t k).getD j D0).i) from hex)
            have HKD := Lib.hid (fun i (hi : i < (kids t k).length) => (show (kids t k).getD i D0 ∈ kids t k from by rw [deD hi]; exact List.getElem_mem hi))
            have HK := Lib.hid (fun e (he : e ∈ kids t k) => H1.out.kid he)
            have HKU := Lib.hid (fun e (he : e ∈ kids t k) => HUK.out k hlt e he)
            have HES := Lib.hid (fun i (hi : i < (kids t k).length) => entTo_succ (t := t) (n := k) hi)
            have HEL := Lib.hid (fun i (hi : i ≤ (kids t k).length) => entTo_le H1.out k i hi)
            have HEZ := Lib.hid (entTo_zero t k)
            have HD := Lib.hid (HUD.out k hlt)
            have u2 := HR2.out.c k hlt
            have hbs := B5.out.size
            clear hc hs hef hex
            generalize hes : kids t k = es at *
            generalize hm : es.length = m at *
            generalize usgN t k = uk at *
            go_wp2_with fail
            go_loopg [12, 13, 14] m (fun gg s12 s13 _ wr => ∃ i p : Nat, i ≤ m ∧ m - i ≤ gg ∧ s12 = .int .i64 (entTo t k i : Nat) ∧ s13 = .int .i64 i ∧ wr = W5.drewN p)
            case atStart => exact ⟨0, q, by omega, by omega, by rw [HEZ.out]; rfl, rfl, rfl⟩
            case round =>
              obtain ⟨i, p, hi, hgi, rfl, rfl, rfl⟩ := hrel
              have hel2 := HEL.out i hi
              by_cases hli : i < m
              · have hliz : (i : Int) < (m : Int) := by omega
                have hii0 : (0 : Int) ≤ (i : Int) := Int.natCast_nonneg _
                obtain ⟨be, oe, rfl, hbe, hje⟩ := HEX.out (by omega)
                have g1 := (hje i hli).2
                have HKE := Lib.hid (HKD.out i hli)
                have HS := Lib.hid (HES.out i hli)
                have hku := HKU.out _ HKE.out
                obtain ⟨_, q2, q3, _, _⟩ := HK.out _ HKE.out
                clear hje
                generalize es.getD i D0 = e at *
                obtain ⟨x, ei⟩ := e
                simp only at g1 HS hku q2 q3
                obtain ⟨n2, rfl⟩ := Int.eq_ofNat_of_zero_le (Int.le_of_lt q2)
                simp only [Int.toNat_natCast] at HS hku q3
                have u1 := HR2.out.c n2 q3
                have hul := HUL.out n2
                generalize usgN t n2 = ue at *
                generalize entTo t k i = et at *
                have n2z : (n2 : Int) < (t.length : Int) := by omega
                have n20 : (0 : Int) ≤ (n2 : Int) := Int.natCast_nonneg _
                have hgt : decide ((uk : Int) < (ue : Int)) = false := decide_eq_false (by omega)
                have hwr : IntKind.i64.wrap ((et : Int) + (ue : Int)) = (et : Int) + (ue : Int) := IntWalk.i64_in _ (by omega)
                have hmi : m - (i + 1) < m - i := by omega
                go_wp2_with fail
                go_quiet (fail)
                go_wp2_with fail
                go_roundg (m - (i + 1))
                case measure => omega
                case rel => exact ⟨i + 1, _, by omega, by omega, by rw [HS.out]; go_num, by go_num, rfl⟩
              · obtain rfl : i = m := by omega
                by_cases hk1 : (nod t k).k = 1
                · have hk1b : ((nod t k).k == 1) = true := by simpa using hk1
                  have hle := HD.out hk1
                  have hgt : decide ((entTo t k i : Int) < (uk : Int)) = false := decide_eq_false (by omega)
                  generalize entTo t k i = et at *
                  generalize (nod t k).k = gk at *
                  clear hk1
                  go_wp2_with fail
                  go_roundg (t.length - (k + 1))
                  case measure => exact Nat.lt_of_lt_of_le hm9 hg
                  case rel => exact ⟨k + 1, _, by omega, by omega, by go_num, rfl⟩
                · have hk1b : ((nod t k).k == 1) = false := by simpa using hk1
                  generalize entTo t k i = et at *
                  generalize (nod t k).k = gk at *
                  clear hk1 HD
                  go_wp2_with fail
                  go_roundg (t.length - (k + 1))
                  case measure => exact Nat.lt_of_lt_of_le hm9 hg
                  case rel => exact ⟨k + 1, _, by omega, by omega, by go_num, rfl⟩
          · obtain rfl : k = t.length := by omega
            go_wp2
            go_ret
            exact ⟨rfl, below_drewN B5.out _⟩
  · have hq1 : (q != 0) = true := by simpa using hq
    rcases K1 with ⟨_, rfl, rfl⟩ | ⟨h0, _⟩
    case inr => exact absurd h0 hq
    rcases K2 with ⟨_, rfl, rfl⟩ | ⟨h0, _⟩
    case inr => exact absurd h0 hq
    clear hq HV
    go_wp2
    go_ret
    exact ⟨rfl, B5.out⟩

end Go.Proofs.Ytndhhofidkaomaa

/- The reference's Exceeded at a file of a valid tree. Conditions: the tree's cells lie in memory as they read, its files' bytes too. -/

set_option linter.all false
namespace Go.Proofs.Ytndhhofidkaomaa
open Go.RowKit

theorem flat8 : ∀ (L : List (List Value)), (∀ j, j < L.length → (L.getD j []).length = 8) → ∀ j i, j < L.length → i < 8 → L.flatten[j * 8 + i]? = (L.getD j [])[i]?
  | [], _, j, _, hj, _ => absurd hj (by simp)
  | l :: L, h, 0, i, _, hi => by
    have h0 := h 0 (by simp)
    simp at h0
    rw [List.flatten_cons, Nat.zero_mul, Nat.zero_add, List.getElem?_append_left (by omega)]
    simp
  | l :: L, h, j + 1, i, hj, hi => by
    have h0 := h 0 (by simp)
    simp at h0
    have ih := flat8 L (fun m hm => by have := h (m + 1) (by simpa using hm); simpa using this) j i (by simpa using hj) hi
    rw [List.flatten_cons, List.getElem?_append_right (by omega)]
    rw [show (j + 1) * 8 + i - l.length = j * 8 + i by omega, ih]
    simp
/-- What is fitting of an inode's lists and numbers, in any memory. -/
structure NFit (x : Nod) : Prop where
  es : ∀ e ∈ x.es, e.fits
  esl : x.es.length ≤ 35184372088832
  dl : x.dl ≤ 140737488355328
  ac : ∀ e ∈ x.ac, e.fits
  acl : x.ac.length ≤ 5864062014805
  xs : ∀ e ∈ x.xs, e.fits
  xsl : x.xs.length ≤ 4398046511104
  k : i64 x.k
  o : i64 x.o
  q : i64 x.q
  v : i64 x.v
theorem NodS.nfit {w : World} {B : Nat} {ve vd va vx : Value} {x : Nod} (h : NodS w B ve vd va vx x) : NFit x := by
  refine ⟨h.es.fits, ?_, h.dll, ?_, ?_, ?_, ?_, h.k, h.o, h.q, h.v⟩
  · obtain ⟨_, _, _, _, hl, _⟩ := h.es; exact hl
  · obtain ⟨_, _, _, _, _, hf, _⟩ := h.ac; exact hf
  · obtain ⟨_, _, _, _, hl, _⟩ := h.ac; exact hl
  · obtain ⟨_, _, _, _, _, hf, _⟩ := h.xs; exact hf
  · obtain ⟨_, _, _, _, hl, _⟩ := h.xs; exact hl
/-- A copied tree with the size of one file changed. -/
theorem CT.resized {w : World} {B : Nat} {v : Value} {t : Tr} (h : CT w B v t t.length) (h0 : 0 < t.length) (hf : ∀ j, j < t.length → NFit (nod t j)) (h40 : t.length ≤ 40) :
    ∃ R cap, v = .slice (some ⟨R, 0, none⟩) t.length cap ∧ B ≤ R ∧ R < w.heap.size ∧ (∀ j, w.frozen? ⟨R, j, none⟩ = false) ∧ (∀ j, j < t.length * 8 → ∃ u, w.cell? ⟨R, j, none⟩ = some u) ∧
      ∀ n s, n < t.length → s ≤ 200 → ∀ z da dc, Below w.heap.size w z → s ≤ dc → Nods (z.setCell ⟨R, n * 8 + 3, none⟩ (.slice da s dc)) z.heap.size (some ⟨R, 0, none⟩) cap (reSize t n s) := by
  obtain ⟨L, hL, hown, hrow⟩ := h.row
  have hO := hown
  rcases hown.2 with ⟨_, hz⟩ | ⟨R, cap, cur, rfl, hbR, hcur, hcap, _, _, _⟩
  · omega
  have hlt : R < w.heap.size := (Array.getElem?_eq_some_iff.1 hcur).1
  have h8 : ∀ j, j < L.length → (L.getD j []).length = 8 := fun j hj => by
    obtain ⟨_, _, _, _, e, _⟩ := hrow j (by omega)
    rw [e]; rfl
  have hfl : L.flatten.length = t.length * 8 := hO.1
  refine ⟨R, cap, rfl, hbR, hlt, fun j => hO.frozenAt j, fun j hj => ?_, fun n s hn hs z da dc hb hdc => ?_⟩
  · refine ⟨L.flatten[j]'(by omega), ?_⟩
    rw [hO.cellAt j (by omega), List.getElem?_eq_getElem (by omega)]
  · have cellz : ∀ j i u, j < t.length → i < 8 → (L.getD j [])[i]? = some u → z.cell? ⟨R, j * 8 + i, none⟩ = some u := fun j i u hj hi hu => by
      rw [← flat8 L h8 j i (by omega) hi] at hu
      refine (hb.cell (p := ⟨R, j * 8 + i, none⟩) hlt).trans ?_
      rw [hO.cellAt (j * 8 + i) (by omega)]; exact hu
    have cell2 : ∀ j i u, j < t.length → i < 8 → ¬ (j = n ∧ i = 3) → (L.getD j [])[i]? = some u → (z.setCell ⟨R, n * 8 + 3, none⟩ (.slice da s dc)).cell? ⟨R, j * 8 + i, none⟩ = some u := fun j i u hj hi hne hu => by
      refine (World.cell?_setCell_other _ _ _ _ (fun e => ?_)).trans (cellz j i u hj hi hu)
      have := congrArg Addr.off e
      simp at this
      omega
    refine ⟨by rw [re_len]; exact hcap, by rw [re_len]; omega, fun _ => ⟨R, 0, rfl, Nat.lt_of_lt_of_le hlt hb.size, fun j hj => ?_⟩⟩
    rw [re_len] at hj
    obtain ⟨ve, vd, va, vx, e, r⟩ := hrow j hj
    have hg := hf j hj
    have c : ∀ i u, i < 8 → ¬ (j = n ∧ i = 3) → (inoV (nod t j) ve vd va vx)[i]? = some u → (z.setCell ⟨R, n * 8 + 3, none⟩ (.slice da s dc)).cell? ⟨R, j * 8 + i, none⟩ = some u := fun i u hi hne hu => cell2 j i u hj hi hne (by rw [e]; exact hu)
    have rz := r.below hb
    have keep : ∀ {te : TypeId} {sz m : Nat} {u : Value} {xs : List Value}, te ≠ 47 → w.ownsRow B te sz u m xs → (z.setCell ⟨R, n * 8 + 3, none⟩ (.slice da s dc)).ownsRow B te sz u m xs := fun hte hr => by
      refine own_block (own_below hr hb) (fun g hg2 hl => Below.heap_setCell _ _ _ _ (fun e9 => ?_))
      have := own_apartQ hO hr (fun e => hte e.symm) (g := R) rfl
      exact this (by rw [hg2]; simp at e9; rw [e9])
    have hsz : (z.setCell ⟨R, n * 8 + 3, none⟩ (.slice da s dc)).heap.size = z.heap.size := by simp
    have hE := des_ownQ (keep (by decide) r.e) hg.es hg.esl
    have hA := acls_own (keep (by decide) r.a) hg.ac hg.acl
    have hX := ats_own (keep (by decide) r.x) hg.xs hg.xsl
    rw [hsz] at hE hA hX
    rw [Nat.zero_add, nod_re hn]
    by_cases ej : j = n
    · subst ej
      rw [if_pos rfl]
      refine ⟨ve, .slice da s dc, va, vx, ⟨c 0 _ (by omega) (by omega) rfl, c 1 _ (by omega) (by omega) rfl, c 2 _ (by omega) (by omega) rfl, ?_, c 4 _ (by omega) (by omega) rfl, c 5 _ (by omega) (by omega) rfl, c 6 _ (by omega) (by omega) rfl, c 7 _ (by omega) (by omega) rfl⟩, ⟨hE, ⟨da, dc, rfl, hdc⟩, by simp only; omega, hA, hX, hg.k, hg.o, hg.q, hg.v⟩⟩
      obtain ⟨u, hu⟩ : ∃ u, z.cell? ⟨R, j * 8 + 3, none⟩ = some u := ⟨_, cellz j 3 vd hj (by omega) (by rw [e]; rfl)⟩
      exact World.cell?_setCell_same _ _ _ hu
    · rw [if_neg ej]
      exact ⟨ve, vd, va, vx, ⟨c 0 _ (by omega) (by omega) rfl, c 1 _ (by omega) (by omega) rfl, c 2 _ (by omega) (by omega) rfl, c 3 _ (by omega) (by omega) rfl, c 4 _ (by omega) (by omega) rfl, c 5 _ (by omega) (by omega) rfl, c 6 _ (by omega) (by omega) rfl, c 7 _ (by omega) (by omega) rfl⟩, ⟨hE, r.d, hg.dl, hA, hX, hg.k, hg.o, hg.q, hg.v⟩⟩

theorem make_bytes (n : Nat) (hn : n ≤ 200) (w : World) : (Instr.makeSlice 43 (.int .i64 (n : Int)) (.int .i64 (n : Int))).run Try.prog w = .ok (.slice (some ⟨w.heap.size, 0, none⟩) n n) (w.alloc (.cells (madeCells #[.int .u8 0] n) 5)) := by
  obtain ⟨i0, hi, hz0, hz1, hz2⟩ := info_parts u8_infoQ
  have hr := run_make (P := Try.prog) w 43 5 i0 _ Try.underlying43 hi hz0 .i64 .i64 n n (by omega) (by omega) (by rw [hz2]; omega) (by omega)
  simp only [Int.toNat_natCast, hz1, Nat.mul_one] at hr
  exact hr
theorem exL_succ (t : Tr) (file : Nat) (G : Int) (k : Nat) : exL t file G (k + 1) = if qOn t file k = true ∧ room t k < G then exL t file G k ++ [(k : Int)] else exL t file G k := by
  unfold exL
  show List.foldl _ _ (if qOn t file k = true then qL t file k ++ [(k, room t k)] else qL t file k) = _
  by_cases h : qOn t file k = true
  · rw [if_pos h, List.foldl_append]
    by_cases h2 : room t k < G
    · rw [if_pos ⟨h, h2⟩]; exact if_pos h2
    · rw [if_neg (fun e => h2 e.2)]; exact if_neg h2
  · rw [if_neg h, if_neg (fun e => h e.1)]

end Go.Proofs.Ytndhhofidkaomaa
