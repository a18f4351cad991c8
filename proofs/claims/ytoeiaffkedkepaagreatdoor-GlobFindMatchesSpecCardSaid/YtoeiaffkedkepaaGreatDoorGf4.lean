/- GlobFindMatchesSpec: for every tree and every pattern the law returns true.
   Condition: as each theorem states; this text: FsWalk2, FsCont, FsSpec, FsField, FsCells, FsSort0, GlobDel, FsPathC, FsUsage, FsRefs, FsQuota, FsValid. -/
import Derived.Test.YtoeiaffkedkepaaGreatDoorGf3
import Derived.Laws.EntriesVeiled
import Derived.Deep.RegionHeld3
import Derived.Laws.MakeOwn
import Derived.Test.YtoeiaffkedkepaaGreatDoorGf2
import Derived.Deep.AppendLies
import Derived.Deep.DeepAppendWide
import Derived.Deep.Quiet
import Derived.Shelf.Abstract
import Derived.Lib.SlKept
import Derived.Lib.SliceRun
import Derived.Deep.Upon
import Derived.IntWalk

/- walk at any start and any function that it visits with. Conditions: as follow_any. -/
namespace Go.Proofs.YtoeiaffkedkepaaGreatDoor
open Go.RowKit

theorem One.put {w : World} {n : Nat} {v : Value} (h : One w n v) (u : Value) : One (w.setCell ⟨n, 0, none⟩ u) n u :=
  ⟨by simpa using h.lt, World.cell?_setCell_same _ _ _ h.c0, by simpa using h.f0⟩

set_option maxRecDepth 100000 in
set_option maxHeartbeats 2000000 in
theorem walk_any {σ : Type} {t : Tr} {s0 : Nat} {g : FuncId} {caps : Array Value} {S : Nat → Prop} {H0 : Nat} {Inv : World → σ → Prop} {step : σ → Vis → σ} (V : Visitor t s0 g caps S H0 Inv step)
    (h1 : Ok1 t) (fr : From t s0) {Bt : Nat} (hBt : Bt ≤ H0) (hSB : ∀ b, S b → Bt ≤ b) (a : Option Addr) (c : Nat) (W : World) (s : σ) (hn : Nods W Bt a c t) (hH : H0 ≤ W.heap.size) (hI : Inv W s) :
    Calls Tryz.prog 48 #[.agg #[.slice a t.length c], .int .i64 (s0 : Int), .func (.func g) #[] caps] W fun e W' => e = .returned (.tuple #[]) ∧ Inv W' ((visits t s0).foldl step s) ∧ Kept S none W W' := by
  have eg := V.eg
  have eg2 : ∀ args w, (callFunc 72 args).run Tryz.prog w = .ok (.enter 72 args) w := enters_of Tryz.func72 (by kernel_rfl) rfl
  have HF := Lib.hid (fun base pt pv pf (L : Lay S H0 pt pv pf Bt base) => follow_any V h1 fr L a c [] s0 .nil)
  have LL := Lib.hid (show Lay S H0 W.heap.size (W.heap.size + 1) (W.heap.size + 1 + 1) Bt (W.heap.size + 3) from ⟨hBt, hSB, V.low, hH, by omega, by omega, by omega, by omega, by omega⟩)
  have HN := Lib.hid hn
  clear hn
  go_enter Tryz.func48, Tryz.ntmps48
  go_wp2_with fail
  have B3 := (((Below.refl W.heap.size W).alloc (Nat.le_refl _) (.cells #[.slice a t.length c] 24)).alloc (by first | omega | (simp; done) | (simp; omega)) (.cells #[.func (.func g) #[] caps] 83)).alloc (by first | omega | (simp; done) | (simp; omega)) (.cells #[.func (.func 72) #[] #[.pointer (some ⟨W.heap.size + 1, 0, none⟩), .pointer (some ⟨W.heap.size, 0, none⟩), .pointer (some ⟨W.heap.size + 1 + 1, 0, none⟩)]] 83)
  refine (HF.out _ _ _ _ LL.out _ s (.slice none 0 0) ⟨((One.new W _ _).alloc _).alloc _, ((One.new (W.alloc _) _ _).alloc _).at_ (by simp), (One.new ((W.alloc _).alloc _) _ _).at_ (by simp), HN.out.below (B3.mono (by omega))⟩ (by simp) (V.keep _ _ _ hI (B3.mono hH)) (World.ownsRow_nil _ _ _ _)).mono ?_
  rintro e W' ⟨rfl, G⟩
  have K : Kept S none W W' := (Kept.of_below B3).trans G.kept
  have I := G.inv
  clear G B3
  go_wp2
  go_end0
  exact ⟨rfl, I, K⟩

end Go.Proofs.YtoeiaffkedkepaaGreatDoor

/- checkContents at every inode. Conditions: the inode's slices lie in memory as they read. -/
namespace Go.Proofs.YtoeiaffkedkepaaGreatDoor
open Go.RowKit

set_option maxHeartbeats 3200000 in
theorem checkContents_any (x : Nod) (ve vd va vx : Value) (w : World) (h : NodS w w.heap.size ve vd va vx x) :
    Calls Tryz.prog 62 #[.agg #[.int .i64 x.k, .int .i64 x.o, ve, vd, va, vx, .int .i64 x.q, .int .i64 x.v]] w fun e w' => e = .returned (.int .i64 (codeC x)) ∧ Below w.heap.size w w' := by
  obtain ⟨⟨ea, ec, rfl, hec, hel, _, _⟩, ⟨da, dc, rfl, hdc⟩, hdl, ⟨aa, acp, rfl, hacc, hacl, _, _⟩, ⟨xa, xc, rfl, hxc, hxl, _, _⟩, _, _, _, _⟩ := h
  have HC := Lib.hid (show codeC x = if ¬ (0 ≤ x.o ∧ x.o ≤ 7) ∨ ¬ (0 ≤ x.v ∧ x.v ≤ 1000000) ∨ ¬ (0 ≤ x.q ∧ x.q ≤ 100000) then 3
    else if (x.k = 1 ∧ 0 < x.dl) ∨ (x.k ≠ 1 ∧ (0 < x.es.length ∨ x.q ≠ 0)) then 5
    else if 200 < x.dl then 10 else 0 from rfl)
  generalize codeC x = r at *
  generalize x.es.length = n1 at *
  generalize x.dl = n2 at *
  generalize x.ac.length = n3 at *
  generalize x.xs.length = n4 at *
  obtain ⟨k, o, es, dl, ac, xs, q, v⟩ := x
  simp only at *
  have c1 := fun W => isBetween_any o 7 W
  have c2 := fun W => isBetween_any v 1000000 W
  have c3 := fun W => isBetween_any q 100000 W
  by_cases h1 : 0 ≤ o ∧ o ≤ 7
  · rw [decide_eq_true h1] at c1
    by_cases h2 : 0 ≤ v ∧ v ≤ 1000000
    · rw [decide_eq_true h2] at c2
      by_cases h3 : 0 ≤ q ∧ q ≤ 100000
      · rw [decide_eq_true h3] at c3
        rw [if_neg (by simp [h1, h2, h3])] at HC
        clear h1 h2 h3
        by_cases hk : k = 1
        · subst hk
          by_cases hd : 0 < n2
          · rw [if_pos (Or.inl ⟨rfl, hd⟩)] at HC
            have C1 := Lib.hid c1; have C2 := Lib.hid c2; have C3 := Lib.hid c3
            clear c1 c2 c3
            go_enter Tryz.func62, Tryz.ntmps62
            go_wp2_with fail
            refine (C1.out _).mono ?_
            rintro e w' ⟨rfl, rfl⟩
            go_wp2_with fail
            refine (C2.out _).mono ?_
            rintro e w' ⟨rfl, rfl⟩
            go_wp2_with fail
            refine (C3.out _).mono ?_
            rintro e w' ⟨rfl, rfl⟩
            go_wp2
            go_ret
            exact ⟨ret_int (by rw [HC.out]), (Below.refl _ _).alloc (Nat.le_refl _) _⟩
          · obtain rfl : n2 = 0 := by omega
            rw [if_neg (by simp), if_neg (by simp)] at HC
            have C1 := Lib.hid c1; have C2 := Lib.hid c2; have C3 := Lib.hid c3
            clear c1 c2 c3
            go_enter Tryz.func62, Tryz.ntmps62
            go_wp2_with fail
            refine (C1.out _).mono ?_
            rintro e w' ⟨rfl, rfl⟩
            go_wp2_with fail
            refine (C2.out _).mono ?_
            rintro e w' ⟨rfl, rfl⟩
            go_wp2_with fail
            refine (C3.out _).mono ?_
            rintro e w' ⟨rfl, rfl⟩
            go_wp2
            go_ret
            exact ⟨ret_int (by rw [HC.out]), (Below.refl _ _).alloc (Nat.le_refl _) _⟩
        · have hk1 : (k == 1) = false := by simpa using hk
          by_cases he : 0 < n1
          · rw [if_pos (Or.inr ⟨hk, Or.inl he⟩)] at HC
            clear hk
            have C1 := Lib.hid c1; have C2 := Lib.hid c2; have C3 := Lib.hid c3
            clear c1 c2 c3
            go_enter Tryz.func62, Tryz.ntmps62
            go_wp2_with fail
            refine (C1.out _).mono ?_
            rintro e w' ⟨rfl, rfl⟩
            go_wp2_with fail
            refine (C2.out _).mono ?_
            rintro e w' ⟨rfl, rfl⟩
            go_wp2_with fail
            refine (C3.out _).mono ?_
            rintro e w' ⟨rfl, rfl⟩
            go_wp2
            go_ret
            exact ⟨ret_int (by rw [HC.out]), (Below.refl _ _).alloc (Nat.le_refl _) _⟩
          · obtain rfl : n1 = 0 := by omega
            by_cases hq : q = 0
            · subst hq
              rw [if_neg (by simp [hk])] at HC
              clear hk
              by_cases hd : 200 < n2
              · rw [if_pos hd] at HC
                have C1 := Lib.hid c1; have C2 := Lib.hid c2; have C3 := Lib.hid c3
                clear c1 c2 c3
                go_enter Tryz.func62, Tryz.ntmps62
                go_wp2_with fail
                refine (C1.out _).mono ?_
                rintro e w' ⟨rfl, rfl⟩
                go_wp2_with fail
                refine (C2.out _).mono ?_
                rintro e w' ⟨rfl, rfl⟩
                go_wp2_with fail
                refine (C3.out _).mono ?_
                rintro e w' ⟨rfl, rfl⟩
                go_wp2
                go_ret
                exact ⟨ret_int (by rw [HC.out]), (Below.refl _ _).alloc (Nat.le_refl _) _⟩
              · rw [if_neg hd] at HC
                have C1 := Lib.hid c1; have C2 := Lib.hid c2; have C3 := Lib.hid c3
                clear c1 c2 c3
                go_enter Tryz.func62, Tryz.ntmps62
                go_wp2_with fail
                refine (C1.out _).mono ?_
                rintro e w' ⟨rfl, rfl⟩
                go_wp2_with fail
                refine (C2.out _).mono ?_
                rintro e w' ⟨rfl, rfl⟩
                go_wp2_with fail
                refine (C3.out _).mono ?_
                rintro e w' ⟨rfl, rfl⟩
                go_wp2
                go_ret
                exact ⟨ret_int (by rw [HC.out]), (Below.refl _ _).alloc (Nat.le_refl _) _⟩
            · rw [if_pos (Or.inr ⟨hk, Or.inr hq⟩)] at HC
              have hq1 : (q != 0) = true := by simpa using hq
              clear hk hq
              have C1 := Lib.hid c1; have C2 := Lib.hid c2; have C3 := Lib.hid c3
              clear c1 c2 c3
              go_enter Tryz.func62, Tryz.ntmps62
              go_wp2_with fail
              refine (C1.out _).mono ?_
              rintro e w' ⟨rfl, rfl⟩
              go_wp2_with fail
              refine (C2.out _).mono ?_
              rintro e w' ⟨rfl, rfl⟩
              go_wp2_with fail
              refine (C3.out _).mono ?_
              rintro e w' ⟨rfl, rfl⟩
              go_wp2
              go_ret
              exact ⟨ret_int (by rw [HC.out]), (Below.refl _ _).alloc (Nat.le_refl _) _⟩
      · rw [decide_eq_false h3] at c3
        rw [if_pos (Or.inr (Or.inr h3))] at HC
        clear h1 h2 h3
        have C1 := Lib.hid c1; have C2 := Lib.hid c2; have C3 := Lib.hid c3
        clear c1 c2 c3
        go_enter Tryz.func62, Tryz.ntmps62
        go_wp2_with fail
        refine (C1.out _).mono ?_
        rintro e w' ⟨rfl, rfl⟩
        go_wp2_with fail
        refine (C2.out _).mono ?_
        rintro e w' ⟨rfl, rfl⟩
        go_wp2_with fail
        refine (C3.out _).mono ?_
        rintro e w' ⟨rfl, rfl⟩
        go_wp2
        go_ret
        exact ⟨ret_int (by rw [HC.out]), (Below.refl _ _).alloc (Nat.le_refl _) _⟩
    · rw [decide_eq_false h2] at c2
      rw [if_pos (Or.inr (Or.inl h2))] at HC
      clear h1 h2
      have C1 := Lib.hid c1; have C2 := Lib.hid c2; have C3 := Lib.hid c3
      clear c1 c2 c3
      go_enter Tryz.func62, Tryz.ntmps62
      go_wp2_with fail
      refine (C1.out _).mono ?_
      rintro e w' ⟨rfl, rfl⟩
      go_wp2_with fail
      refine (C2.out _).mono ?_
      rintro e w' ⟨rfl, rfl⟩
      go_wp2
      go_ret
      exact ⟨ret_int (by rw [HC.out]), (Below.refl _ _).alloc (Nat.le_refl _) _⟩
  · rw [decide_eq_false h1] at c1
    rw [if_pos (Or.inl h1)] at HC
    clear h1
    have C1 := Lib.hid c1; have C2 := Lib.hid c2; have C3 := Lib.hid c3
    clear c1 c2 c3
    go_enter Tryz.func62, Tryz.ntmps62
    go_wp2_with fail
    refine (C1.out _).mono ?_
    rintro e w' ⟨rfl, rfl⟩
    go_wp2
    go_ret
    exact ⟨ret_int (by rw [HC.out]), (Below.refl _ _).alloc (Nat.le_refl _) _⟩

end Go.Proofs.YtoeiaffkedkepaaGreatDoor

/- The fault of a tree, in plain words: what is reached, what lies too far, how much lies below. No program. -/
namespace Go.Proofs.YtoeiaffkedkepaaGreatDoor
open Go.RowKit

def hasL (L : List Vis) (n : Nat) : Bool := L.any fun p => decide (p.2 = n)
def tooFar (xs : List ByteArray) : Bool := decide ((joinF xs).1 ≠ 0)
def farL (L : List Vis) (n : Nat) : Bool := L.any fun p => decide (p.2 = n) && tooFar p.1
theorem hasL_snoc (L : List Vis) (p : Vis) (n : Nat) : hasL (L ++ [p]) n = (hasL L n || decide (p.2 = n)) := by unfold hasL; simp
theorem farL_snoc (L : List Vis) (p : Vis) (n : Nat) : farL (L ++ [p]) n = (farL L n || (decide (p.2 = n) && tooFar p.1)) := by unfold farL; simp
theorem any_perm {α : Type} {p : α → Bool} {L M : List α} (h : L.Perm M) : L.any p = M.any p := by
  rw [Bool.eq_iff_iff, List.any_eq_true, List.any_eq_true]
  constructor
  · rintro ⟨x, hx, hp⟩; exact ⟨x, h.mem_iff.1 hx, hp⟩
  · rintro ⟨x, hx, hp⟩; exact ⟨x, h.mem_iff.2 hx, hp⟩
theorem hasL_perm {L M : List Vis} (h : L.Perm M) (n : Nat) : hasL L n = hasL M n := any_perm h
theorem farL_perm {L M : List Vis} (h : L.Perm M) (n : Nat) : farL L n = farL M n := any_perm h
theorem hasL_iff {L : List Vis} {n : Nat} : hasL L n = true ↔ ∃ xs, (xs, n) ∈ L := by
  unfold hasL
  rw [List.any_eq_true]
  constructor
  · rintro ⟨⟨xs, m⟩, hx, hm⟩; simp at hm; subst hm; exact ⟨xs, hx⟩
  · rintro ⟨xs, hx⟩; exact ⟨_, hx, by simp⟩

/-- The size of the distinct files of a list of visits. -/
def usg (t : Tr) (L : List Vis) : Nat := ((List.range t.length).map fun i => if hasL L i = true then (nod t i).dl else 0).sum
theorem usg_perm (t : Tr) {L M : List Vis} (h : L.Perm M) : usg t L = usg t M := by
  unfold usg
  simp only [hasL_perm h]
theorem usg_nil (t : Tr) : usg t [] = 0 := by
  have := sum_le_mul (l := (List.range t.length).map fun i => if hasL [] i = true then (nod t i).dl else 0) (m := 0) (by
    intro x hx
    obtain ⟨i, _, rfl⟩ := List.mem_map.1 hx
    simp [hasL])
  unfold usg
  omega
theorem sum_map_add (f g : Nat → Nat) : ∀ l : List Nat, (l.map fun i => f i + g i).sum = (l.map f).sum + (l.map g).sum
  | [] => rfl
  | a :: l => by simp only [List.map_cons, List.sum_cons, sum_map_add f g l]; omega
theorem sum_one_at (d : Nat → Nat) (n : Nat) : ∀ m, ((List.range m).map fun i => if n = i then d i else 0).sum = if n < m then d n else 0
  | 0 => by simp
  | m + 1 => by
    rw [List.range_succ, List.map_append, List.sum_append, sum_one_at d n m]
    simp only [List.map_cons, List.map_nil, List.sum_cons, List.sum_nil, Nat.add_zero]
    by_cases h : n = m
    · subst h; simp
    · rw [if_neg h]
      by_cases h2 : n < m
      · rw [if_pos h2, if_pos (by omega)]; omega
      · rw [if_neg h2, if_neg (by omega)]
theorem usg_snoc {t : Tr} {L : List Vis} {p : Vis} (hp : p.2 < t.length) : usg t (L ++ [p]) = if hasL L p.2 = true then usg t L else usg t L + (nod t p.2).dl := by
  unfold usg
  simp only [hasL_snoc]
  by_cases h : hasL L p.2 = true
  · rw [if_pos h]
    congr 1
    refine List.map_congr_left fun i _ => ?_
    by_cases e : p.2 = i
    · subst e; simp [h]
    · simp [e]
  · rw [if_neg h]
    have h2 : ((List.range t.length).map fun i => if (hasL L i || decide (p.2 = i)) = true then (nod t i).dl else 0) = (List.range t.length).map fun i => (if hasL L i = true then (nod t i).dl else 0) + (if p.2 = i then (nod t i).dl else 0) := by
      refine List.map_congr_left fun i _ => ?_
      by_cases e : p.2 = i
      · subst e; simp [h]
      · simp [e]
    rw [h2, sum_map_add, sum_one_at, if_pos hp]
theorem usg_le {t : Tr} (h : Ok1 t) (L : List Vis) : usg t L ≤ 8000 := by
  unfold usg
  have := sum_le_mul (l := (List.range t.length).map fun i => if hasL L i = true then (nod t i).dl else 0) (m := 200) (by
    intro x hx
    obtain ⟨i, _, rfl⟩ := List.mem_map.1 hx
    have := (h.fine i).dl
    split <;> omega)
  simp only [List.length_map, List.length_range] at this
  have := h.le
  omega

def codeP (t : Tr) (n : Nat) : Int :=
  if (nod t n).k ≠ 0 ∧ hasL (visits t 0) n = false then 11 else if farL (visits t 0) n = true then 10 else 0
def codeQ (t : Tr) (n : Nat) : Int := if (nod t n).q ≠ 0 ∧ (nod t n).q < (usg t (visits t n) : Int) then 14 else 0
/-- The four checks. -/
def codeK (t : Tr) (k n : Nat) : Int := match k with
  | 0 => codeN t (nod t n)
  | 1 => codeLk t n
  | 2 => codeP t n
  | _ => codeQ t n
/-- The first inode that a check finds a fault of. -/
def chk (t : Tr) (k : Nat) : Int × Int := firstNZ (codeK t k) t.length 0
def scanK (t : Tr) : Nat → Nat → Int × Int
  | 0, _ => (0, 0)
  | m + 1, k => if (chk t k).1 = 0 then scanK t m (k + 1) else chk t k
def valT (t : Tr) : Int × Int :=
  if t.length = 0 then (6, 0) else if 40 < t.length then (2, 0) else if (nod t 0).k ≠ 1 then (8, 0) else scanK t 4 0
/-- The checks ahead of number k find nothing. -/
def Pass (t : Tr) (k : Nat) : Prop := ∀ j, j < k → ∀ n, n < t.length → codeK t j n = 0
structure Head (t : Tr) : Prop where
  ne : 0 < t.length
  le : t.length ≤ 40
  root : (nod t 0).k = 1
theorem chk_hit {t : Tr} {k i : Nat} {c : Int} (hi : i < t.length) (hc : codeK t k i = c) (hn : ¬ c = 0) (hA : ∀ j, j < i → codeK t k j = 0) : chk t k = (c, (i : Int)) := by
  unfold chk
  rw [firstNZ_hit (codeK t k) t.length 0 i hi (by rw [Nat.zero_add, hc]; exact hn) (by intro j hj; rw [Nat.zero_add]; exact hA j hj)]
  rw [Nat.zero_add, hc]
theorem chk_miss {t : Tr} {k : Nat} (hA : ∀ j, j < t.length → codeK t k j = 0) : chk t k = (0, 0) := by
  unfold chk
  exact firstNZ_miss _ _ _ (by intro j hj; rw [Nat.zero_add]; exact hA j hj)
theorem scanK_hit (t : Tr) : ∀ (m k d : Nat), d < m → (∀ j, j < d → (chk t (k + j)).1 = 0) → (chk t (k + d)).1 ≠ 0 → scanK t m k = chk t (k + d)
  | 0, _, _, h, _, _ => absurd h (by omega)
  | m + 1, k, 0, _, _, h => by unfold scanK; rw [if_neg (by simpa using h)]; simp
  | m + 1, k, d + 1, hd, hA, h => by
    have h0 := hA 0 (by omega)
    unfold scanK
    rw [if_pos (by simpa using h0), scanK_hit t m (k + 1) d (by omega) (fun j hj => by have := hA (j + 1) (by omega); rwa [show k + (j + 1) = k + 1 + j by omega] at this) (by rwa [show k + (d + 1) = k + 1 + d by omega] at h), show k + (d + 1) = k + 1 + d by omega]
theorem scanK_miss (t : Tr) : ∀ (m k : Nat), (∀ j, j < m → (chk t (k + j)).1 = 0) → scanK t m k = (0, 0)
  | 0, _, _ => rfl
  | m + 1, k, hA => by
    have h0 := hA 0 (by omega)
    unfold scanK
    rw [if_pos (by simpa using h0), scanK_miss t m (k + 1) (fun j hj => by have := hA (j + 1) (by omega); rwa [show k + (j + 1) = k + 1 + j by omega] at this)]
theorem scanK_zero (t : Tr) : ∀ (m k : Nat), (scanK t m k).1 = 0 → ∀ j, j < m → (chk t (k + j)).1 = 0
  | 0, _, _, j, hj => absurd hj (by omega)
  | m + 1, k, h, j, hj => by
    unfold scanK at h
    split at h
    · rename_i h0
      cases j with
      | zero => simpa using h0
      | succ j => have := scanK_zero t m (k + 1) h j (by omega); rwa [show k + (j + 1) = k + 1 + j by omega]
    · rename_i h0; exact absurd h h0
theorem Pass.chk0 {t : Tr} {k : Nat} (h : Pass t k) : ∀ j, j < k → (chk t j).1 = 0 := fun j hj => by rw [chk_miss (h j hj)]
theorem Pass.succ {t : Tr} {k : Nat} (h : Pass t k) (h2 : ∀ n, n < t.length → codeK t k n = 0) : Pass t (k + 1) := fun j hj n hn => by
  by_cases e : j = k
  · subst e; exact h2 n hn
  · exact h j (by omega) n hn
theorem valT_hit {t : Tr} (h : Head t) {k i : Nat} {c : Int} (hk : k < 4) (hp : Pass t k) (hi : i < t.length) (hc : codeK t k i = c) (hn : ¬ c = 0) (hA : ∀ j, j < i → codeK t k j = 0) : valT t = (c, (i : Int)) := by
  have := h.ne; have := h.le
  have e := chk_hit hi hc hn hA
  unfold valT
  rw [if_neg (by omega), if_neg (by omega), if_neg (by rw [h.root]; simp), scanK_hit t 4 0 k hk (fun j hj => by rw [Nat.zero_add]; exact hp.chk0 j hj) (by rw [Nat.zero_add, e]; exact hn), Nat.zero_add, e]
theorem valT_miss {t : Tr} (h : Head t) (hp : Pass t 4) : valT t = (0, 0) := by
  have := h.ne; have := h.le
  unfold valT
  rw [if_neg (by omega), if_neg (by omega), if_neg (by rw [h.root]; simp), scanK_miss t 4 0 (fun j hj => by rw [Nat.zero_add]; exact hp.chk0 j hj)]
theorem valT_none {t : Tr} (h : t.length = 0) : valT t = (6, 0) := by unfold valT; rw [if_pos h]
theorem valT_many {t : Tr} (h : 40 < t.length) : valT t = (2, 0) := by unfold valT; rw [if_neg (by omega), if_pos h]
theorem valT_root {t : Tr} (h : ¬ t.length = 0) (h2 : ¬ 40 < t.length) (h3 : (nod t 0).k ≠ 1) : valT t = (8, 0) := by unfold valT; rw [if_neg h, if_neg h2, if_pos h3]
theorem firstNZ_one (f : Nat → Int) (m i : Nat) : (firstNZ f m i).1 = 0 → firstNZ f m i = (0, 0) := by
  intro h
  exact firstNZ_miss f m i (firstNZ_zero f m i h)
theorem valT_ok {t : Tr} (h : (valT t).1 = 0) : Head t ∧ Pass t 4 := by
  unfold valT at h
  split at h
  · cases h
  · rename_i h0
    split at h
    · cases h
    · rename_i h1
      split at h
      · cases h
      · rename_i h2
        refine ⟨⟨by omega, by omega, by simpa using h2⟩, fun j hj n hn => ?_⟩
        have := scanK_zero t 4 0 h j hj
        rw [Nat.zero_add] at this
        have := firstNZ_zero (codeK t j) t.length 0 this n hn
        rwa [Nat.zero_add] at this
theorem valT_zero {t : Tr} (h : (valT t).1 = 0) : valT t = (0, 0) := valT_miss (valT_ok h).1 (valT_ok h).2

/-! ## What has passed -/
theorem Pass.ok1 {t : Tr} (h : Head t) (p : Pass t 1) : Ok1 t := ⟨h.ne, h.le, h.root, fun n hn => p 0 (by omega) n hn⟩
theorem Pass.ok2 {t : Tr} (h : Head t) (p : Pass t 2) : Ok2 t := ⟨Pass.ok1 h fun j hj => p j (by omega), fun n hn => p 1 (by omega) n hn⟩
theorem Pass.mono {t : Tr} {k j : Nat} (p : Pass t k) (h : j ≤ k) : Pass t j := fun i hi => p i (by omega)
theorem Pass.from_ {t : Tr} (h : Head t) (p : Pass t 3) {n : Nat} (hn : n < t.length) (hk : (nod t n).k ≠ 0) : From t n ∧ ∃ zs, Rch t 0 zs n := by
  have o2 := Pass.ok2 h (p.mono (by omega))
  have hc : codeP t n = 0 := p 2 (by omega) n hn
  unfold codeP at hc
  split at hc
  · cases hc
  · rename_i h1
    have : hasL (visits t 0) n = true := by
      cases hh : hasL (visits t 0) n with
      | true => rfl
      | false => exact absurd ⟨hk, hh⟩ h1
    obtain ⟨xs, hx⟩ := hasL_iff.1 this
    have := (mem_visits o2.fin).1 hx
    exact ⟨o2.from_ this, xs, this⟩
/-- A file or directory that is reached. -/
theorem tooFar_iff {xs : List ByteArray} (hv : ∀ x ∈ xs, vname x = true) : tooFar xs = (decide (8 < xs.length) || decide (100 < (pstr xs).length)) := by
  have hb : firstBad xs = xs.length := by
    unfold firstBad
    rw [List.findIdx_eq_length]
    intro x hx; simp [hv x hx]
  have hc : compFault xs = if 8 < xs.length then (10, 0) else (0, 0) := by unfold compFault; rw [hb, if_neg (by omega)]
  unfold tooFar joinF
  rw [hc]
  by_cases h8 : 8 < xs.length
  · simp [h8]
  · simp only [if_neg h8, if_true]
    by_cases h1 : 100 < (pstr xs).length
    · simp [h1]
    · simp [h1, h8]

end Go.Proofs.YtoeiaffkedkepaaGreatDoor

/- The function that fieldCheck returns, at every inode. Conditions: the tree's cells lie in memory as they read. -/
namespace Go.Proofs.YtoeiaffkedkepaaGreatDoor
open Go.RowKit

theorem NodC.new (w : World) (x : Nod) (ve vd va vx : Value) (t : TypeId) : NodC (w.alloc (.cells #[.int .i64 x.k, .int .i64 x.o, ve, vd, va, vx, .int .i64 x.q, .int .i64 x.v] t)) w.heap.size 0 ve vd va vx x :=
  ⟨by simp, by simp, by simp, by simp, by simp, by simp, by simp, by simp⟩
theorem NodC.below {w w' : World} {B b o : Nat} {ve vd va vx : Value} {x : Nod} (h : NodC w b o ve vd va vx x) (hb : Below B w w') (hB : b < B) : NodC w' b o ve vd va vx x :=
  h.keep fun o => hb.cell (p := ⟨b, o, none⟩) hB

/-- What holds all through the region: memory below is as it was, the inode's copy and the tree lie there. -/
structure RS (w y : World) (nb pt : Nat) (tv : Value) (ve vd va vx : Value) (x : Nod) : Prop where
  b : Below w.heap.size w y
  lt : nb < y.heap.size
  n : NodC y nb 0 ve vd va vx x
  t : One y pt tv
theorem RS.step {w y z : World} {nb pt : Nat} {tv ve vd va vx : Value} {x : Nod} (h : RS w y nb pt tv ve vd va vx x) (hb : Below y.heap.size y z) : RS w z nb pt tv ve vd va vx x :=
  ⟨h.b.trans (hb.mono h.b.size), Nat.lt_of_lt_of_le h.lt hb.size, h.n.below hb h.lt, h.t.below hb h.t.lt⟩
theorem RS.alloc {w y : World} {nb pt : Nat} {tv ve vd va vx : Value} {x : Nod} (h : RS w y nb pt tv ve vd va vx x) (o : Obj) : RS w (y.alloc o) nb pt tv ve vd va vx x :=
  h.step ((Below.refl _ _).alloc (Nat.le_refl _) o)
theorem RS.drew {w y : World} {nb pt : Nat} {tv ve vd va vx : Value} {x : Nod} (h : RS w y nb pt tv ve vd va vx x) : RS w y.drew nb pt tv ve vd va vx x :=
  h.step (Below.refl _ _).drew
theorem RS.full {w y : World} {nb pt : Nat} {tv ve vd va vx : Value} {x : Nod} (h : RS w y nb pt tv ve vd va vx x) :
    RS w y nb pt tv ve vd va vx x ∧ y.cell? ⟨nb, 0, none⟩ = some (.int .i64 x.k) ∧ y.cell? ⟨nb, 1, none⟩ = some (.int .i64 x.o) ∧ y.cell? ⟨nb, 2, none⟩ = some ve ∧ y.cell? ⟨nb, 3, none⟩ = some vd ∧ y.cell? ⟨nb, 4, none⟩ = some va ∧ y.cell? ⟨nb, 5, none⟩ = some vx ∧ y.cell? ⟨nb, 6, none⟩ = some (.int .i64 x.q) ∧ y.cell? ⟨nb, 7, none⟩ = some (.int .i64 x.v) ∧ y.cell? ⟨pt, 0, none⟩ = some tv := by
  have h1 := h.n.c1; have h2 := h.n.c2; have h3 := h.n.c3; have h4 := h.n.c4; have h5 := h.n.c5; have h6 := h.n.c6; have h7 := h.n.c7
  simp only [Nat.zero_add] at h1 h2 h3 h4 h5 h6 h7
  exact ⟨h, h.n.c0, h1, h2, h3, h4, h5, h6, h7, h.t.c0⟩

theorem field_code (c i : Int) (w : World) : (Instr.field 28 (.agg #[.int .i64 c, .int .i64 i]) 0).run Tryz.prog w = .ok (.int .i64 c) w := by kernel_rfl

set_option maxRecDepth 100000 in
set_option maxHeartbeats 4000000 in
theorem fieldCheck1_any (a : Option Addr) (c : Nat) (t : Tr) (n pt : Nat) (w : World) (h : Nods w w.heap.size a c t) (hp : One w pt (.slice a t.length c)) (hn : n < t.length) :
    Calls Tryz.prog 59 #[.int .i64 (n : Int), .pointer (some ⟨pt, 0, none⟩)] w fun e w' => e = .returned (.int .i64 (codeN t (nod t n))) ∧ Below w.heap.size w w' := by
  obtain ⟨b, o, ve, vd, va, vx, rfl, hb, hc, hs⟩ := h.one hn
  obtain ⟨ea, ec, rfl⟩ : ∃ ea ec, ve = .slice ea (nod t n).es.length ec := by obtain ⟨ea, ec, e, _⟩ := hs.es; exact ⟨ea, ec, e⟩
  obtain ⟨da, dc, rfl⟩ : ∃ da dc, vd = .slice da (nod t n).dl dc := by obtain ⟨da, dc, e, _⟩ := hs.dl; exact ⟨da, dc, e⟩
  obtain ⟨aa, acp, rfl⟩ : ∃ aa ac, va = .slice aa (nod t n).ac.length ac := by obtain ⟨da, dc, e, _⟩ := hs.ac; exact ⟨da, dc, e⟩
  obtain ⟨xa, xc, rfl⟩ : ∃ xa xc, vx = .slice xa (nod t n).xs.length xc := by obtain ⟨da, dc, e, _⟩ := hs.xs; exact ⟨da, dc, e⟩
  have nlz : (n : Int) < (t.length : Int) := by omega
  have nz : (0 : Int) ≤ (n : Int) := Int.natCast_nonneg _
  have HN := Lib.hid (show codeN t (nod t n) = if (nod t n).k = 0 then codeF (nod t n) else if (nod t n).k = 1 ∨ (nod t n).k = 2 then or4 (codeC (nod t n)) (valF (nod t n).ac).1 (valA (nod t n).xs).1 (codeEs t (nod t n).es) else 4 from rfl)
  have D1 := Lib.hid (fun W (hb : Below w.heap.size w W) => checkFree_any (nod t n) _ _ _ _ W (hs.up hb))
  have D2 := Lib.hid (fun W (hb : Below w.heap.size w W) => checkContents_any (nod t n) _ _ _ _ W (hs.up hb))
  have D3 := Lib.hid (fun W (hb : Below w.heap.size w W) => validate_any _ (nod t n).ac W ((hs.up hb).ac))
  have D4 := Lib.hid (fun W (hb : Below w.heap.size w W) => xvalidate_any _ (nod t n).xs W ((hs.up hb).xs))
  have D5 := Lib.hid (fun W (hb : Below w.heap.size w W) => checkEntries_any (some ⟨b, o, none⟩) c t _ (nod t n).es W (h.up hb) ((hs.up hb).es))
  unfold valV faultV at D3
  unfold valAV faultV at D4
  have h0 := hc.c0
  have h1 := hc.c1
  have h2 := hc.c2
  have h3 := hc.c3
  have h4 := hc.c4
  have h5 := hc.c5
  have h6 := hc.c6
  have h7 := hc.c7
  have hpc := hp.c0
  have hpl := hp.lt
  have HR := Lib.hid (show RS w (w.alloc (.cells #[.int .i64 (nod t n).k, .int .i64 (nod t n).o, .slice ea (nod t n).es.length ec, .slice da (nod t n).dl dc, .slice aa (nod t n).ac.length acp, .slice xa (nod t n).xs.length xc, .int .i64 (nod t n).q, .int .i64 (nod t n).v] 50)) w.heap.size pt (.slice (some ⟨b, o, none⟩) t.length c) (.slice ea (nod t n).es.length ec) (.slice da (nod t n).dl dc) (.slice aa (nod t n).ac.length acp) (.slice xa (nod t n).xs.length xc) (nod t n) from
    ⟨(Below.refl _ _).alloc (Nat.le_refl _) _, by simp, NodC.new _ _ _ _ _ _ _, hp.alloc _⟩)
  clear hc hs h hp
  generalize codeN t (nod t n) = r at *
  generalize codeF (nod t n) = r1 at *
  generalize codeC (nod t n) = r2 at *
  generalize (valF (nod t n).ac).1 = r3 at *
  generalize (valF (nod t n).ac).2 = r3b at *
  generalize (valA (nod t n).xs).1 = r4 at *
  generalize (valA (nod t n).xs).2 = r4b at *
  generalize codeEs t (nod t n).es = r5 at *
  generalize nod t n = x at *
  obtain ⟨k, ow, es, dl, ac, xs, q, v⟩ := x
  simp only at *
  have hf3 := field_code r3 r3b
  have hf4 := field_code r4 r4b
  by_cases k0 : k = 0
  · subst k0
    rw [if_pos rfl] at HN
    go_enter Tryz.func59, Tryz.ntmps59
    go_wp2_with fail
    refine (D1.out _ ((Below.refl _ _).alloc (Nat.le_refl _) _)).mono ?_
    rintro e w2 ⟨rfl, hb2⟩
    have hB2 : Below w.heap.size w w2 := ((Below.refl _ _).alloc (Nat.le_refl _) _).trans (hb2.mono (by first | omega | (simp; done) | (simp; omega)))
    clear hb2
    go_wp2
    go_ret
    exact ⟨ret_int HN.out.symm, hB2⟩
  · have k1 : (k == 0) = false := by simpa using k0
    rw [if_neg k0] at HN
    by_cases k2 : k = 1 ∨ k = 2
    · rw [if_pos k2] at HN
      clear k0
      rcases k2 with rfl | rfl
      · go_enter Tryz.func59, Tryz.ntmps59
        go_wp2_with fail
        go_region_held3 (fun y => RS w y w.heap.size pt (.slice (some ⟨b, o, none⟩) t.length c) (.slice ea es.length ec) (.slice da dl dc) (.slice aa ac.length acp) (.slice xa xs.length xc) ⟨1, ow, es, dl, ac, xs, q, v⟩ ∧ y.cell? ⟨w.heap.size, 0, none⟩ = some (.int .i64 1) ∧ y.cell? ⟨w.heap.size, 1, none⟩ = some (.int .i64 ow) ∧ y.cell? ⟨w.heap.size, 2, none⟩ = some (.slice ea es.length ec) ∧ y.cell? ⟨w.heap.size, 3, none⟩ = some (.slice da dl dc) ∧ y.cell? ⟨w.heap.size, 4, none⟩ = some (.slice aa ac.length acp) ∧ y.cell? ⟨w.heap.size, 5, none⟩ = some (.slice xa xs.length xc) ∧ y.cell? ⟨w.heap.size, 6, none⟩ = some (.int .i64 q) ∧ y.cell? ⟨w.heap.size, 7, none⟩ = some (.int .i64 v) ∧ y.cell? ⟨pt, 0, none⟩ = some (.slice (some ⟨b, o, none⟩) t.length c))
          (first | exact RS.full hR | exact RS.full HR.out.drew | exact RS.full (RS.alloc (And.left ‹RS w _ w.heap.size pt _ _ _ _ _ _ ∧ _›) _))
          (first
            | (go_at_call 62; have hs0 := And.left ‹RS w _ w.heap.size pt _ _ _ _ _ _ ∧ _›; refine (D2.out _ hs0.b).mono ?_; rintro e y ⟨rfl, hb⟩; have hR := hs0.step hb)
            | (go_at_call 63; have hs0 := And.left ‹RS w _ w.heap.size pt _ _ _ _ _ _ ∧ _›; refine (D3.out _ hs0.b).mono ?_; rintro e y ⟨rfl, hb⟩; have hR := hs0.step hb)
            | (go_at_call 64; have hs0 := And.left ‹RS w _ w.heap.size pt _ _ _ _ _ _ ∧ _›; refine (D4.out _ hs0.b).mono ?_; rintro e y ⟨rfl, hb⟩; have hR := hs0.step hb)
            | (go_at_call 65; have hs0 := And.left ‹RS w _ w.heap.size pt _ _ _ _ _ _ ∧ _›; refine (D5.out _ hs0.b).mono ?_; rintro e y ⟨rfl, hb⟩; have hR := hs0.step hb)
            | (go_at_call 61; have hR := And.left ‹RS w _ w.heap.size pt _ _ _ _ _ _ ∧ _›; refine (or4_any r2 r3 r4 r5 _ _ (by simp) (by simp) (by simp) (by simp) (by simp)).mono ?_; rintro e y ⟨rfl, rfl⟩))
        all_goals
          have hz := And.left ‹RS w _ w.heap.size pt _ _ _ _ _ _ ∧ _›
          go_wp2
          go_ret
          exact ⟨ret_int HN.out.symm, hz.b⟩
      · go_enter Tryz.func59, Tryz.ntmps59
        go_wp2_with fail
        go_region_held3 (fun y => RS w y w.heap.size pt (.slice (some ⟨b, o, none⟩) t.length c) (.slice ea es.length ec) (.slice da dl dc) (.slice aa ac.length acp) (.slice xa xs.length xc) ⟨2, ow, es, dl, ac, xs, q, v⟩ ∧ y.cell? ⟨w.heap.size, 0, none⟩ = some (.int .i64 2) ∧ y.cell? ⟨w.heap.size, 1, none⟩ = some (.int .i64 ow) ∧ y.cell? ⟨w.heap.size, 2, none⟩ = some (.slice ea es.length ec) ∧ y.cell? ⟨w.heap.size, 3, none⟩ = some (.slice da dl dc) ∧ y.cell? ⟨w.heap.size, 4, none⟩ = some (.slice aa ac.length acp) ∧ y.cell? ⟨w.heap.size, 5, none⟩ = some (.slice xa xs.length xc) ∧ y.cell? ⟨w.heap.size, 6, none⟩ = some (.int .i64 q) ∧ y.cell? ⟨w.heap.size, 7, none⟩ = some (.int .i64 v) ∧ y.cell? ⟨pt, 0, none⟩ = some (.slice (some ⟨b, o, none⟩) t.length c))
          (first | exact RS.full hR | exact RS.full HR.out.drew | exact RS.full (RS.alloc (And.left ‹RS w _ w.heap.size pt _ _ _ _ _ _ ∧ _›) _))
          (first
            | (go_at_call 62; have hs0 := And.left ‹RS w _ w.heap.size pt _ _ _ _ _ _ ∧ _›; refine (D2.out _ hs0.b).mono ?_; rintro e y ⟨rfl, hb⟩; have hR := hs0.step hb)
            | (go_at_call 63; have hs0 := And.left ‹RS w _ w.heap.size pt _ _ _ _ _ _ ∧ _›; refine (D3.out _ hs0.b).mono ?_; rintro e y ⟨rfl, hb⟩; have hR := hs0.step hb)
            | (go_at_call 64; have hs0 := And.left ‹RS w _ w.heap.size pt _ _ _ _ _ _ ∧ _›; refine (D4.out _ hs0.b).mono ?_; rintro e y ⟨rfl, hb⟩; have hR := hs0.step hb)
            | (go_at_call 65; have hs0 := And.left ‹RS w _ w.heap.size pt _ _ _ _ _ _ ∧ _›; refine (D5.out _ hs0.b).mono ?_; rintro e y ⟨rfl, hb⟩; have hR := hs0.step hb)
            | (go_at_call 61; have hR := And.left ‹RS w _ w.heap.size pt _ _ _ _ _ _ ∧ _›; refine (or4_any r2 r3 r4 r5 _ _ (by simp) (by simp) (by simp) (by simp) (by simp)).mono ?_; rintro e y ⟨rfl, rfl⟩))
        all_goals
          have hz := And.left ‹RS w _ w.heap.size pt _ _ _ _ _ _ ∧ _›
          go_wp2
          go_ret
          exact ⟨ret_int HN.out.symm, hz.b⟩
    · rw [if_neg k2] at HN
      have k3 : (k == 1) = false := by have : k ≠ 1 := fun e => k2 (.inl e); simpa using this
      have k4 : (k == 2) = false := by have : k ≠ 2 := fun e => k2 (.inr e); simpa using this
      clear k0 k2
      go_enter Tryz.func59, Tryz.ntmps59
      go_wp2
      go_ret
      exact ⟨ret_int HN.out.symm, (Below.refl _ _).alloc (Nat.le_refl _) _⟩

end Go.Proofs.YtoeiaffkedkepaaGreatDoor

/- Rows of ints and bools that a call makes, and what a check of package fstree returns. Conditions: as each theorem states. -/
namespace Go.Proofs.YtoeiaffkedkepaaGreatDoor
open Go.RowKit

/-- Block R holds m values. -/
structure Row (w : World) (R m : Nat) (f : Nat → Value) : Prop where
  lt : R < w.heap.size
  c : ∀ j, j < m → w.cell? ⟨R, j, none⟩ = some (f j)
  fz : ∀ j, w.frozen? ⟨R, j, none⟩ = false
theorem Row.below {w w' : World} {B R m : Nat} {f : Nat → Value} (h : Row w R m f) (hb : Below B w w') (hR : R < B) : Row w' R m f :=
  ⟨Nat.lt_of_lt_of_le h.lt hb.size, fun j hj => (hb.cell (p := ⟨R, j, none⟩) hR).trans (h.c j hj), fun j => (hb.frozen (p := ⟨R, j, none⟩) hR).trans (h.fz j)⟩
theorem Row.alloc {w : World} {R m : Nat} {f : Nat → Value} (h : Row w R m f) (o : Obj) : Row (w.alloc o) R m f :=
  h.below ((Below.refl w.heap.size w).alloc (Nat.le_refl _) o) h.lt
theorem Row.far {w : World} {R m : Nat} {f : Nat → Value} (h : Row w R m f) {p : Addr} (hp : R ≠ p.block) (u : Value) : Row (w.setCell p u) R m f :=
  ⟨by simpa using h.lt, fun j hj => (World.cell?_setCell_other w p _ u (fun e => hp (by rw [e]))).trans (h.c j hj), fun j => by simpa using h.fz j⟩
theorem Row.put {w : World} {R m : Nat} {f : Nat → Value} (h : Row w R m f) {i : Nat} (hi : i < m) (u : Value) : Row (w.setCell ⟨R, i, none⟩ u) R m (fun j => if j = i then u else f j) := by
  refine ⟨by simpa using h.lt, fun j hj => ?_, fun j => by simpa using h.fz j⟩
  by_cases e : j = i
  · subst e
    rw [if_pos rfl]
    exact World.cell?_setCell_same _ _ _ (h.c j hj)
  · rw [if_neg e]
    exact (World.cell?_setCell_other w ⟨R, i, none⟩ ⟨R, j, none⟩ u (fun h => by injection h with _ h2 _; exact e h2.symm)).trans (h.c j hj)
theorem Row.ext {w : World} {R m : Nat} {f g : Nat → Value} (h : Row w R m f) (e : ∀ j, j < m → f j = g j) : Row w R m g :=
  ⟨h.lt, fun j hj => by rw [← e j hj]; exact h.c j hj, h.fz⟩
theorem Row.at_ {w : World} {R R' m : Nat} {f : Nat → Value} (h : Row w R m f) (e : R = R') : Row w R' m f := e ▸ h
theorem row_new (w : World) (n : Nat) (z : Value) (t : TypeId) : Row (w.alloc (.cells (madeCells #[z] n) t)) w.heap.size n (fun _ => z) := by
  refine ⟨by simp, fun j hj => ?_, fun j => by simp⟩
  rw [World.cell?_alloc_new]
  simp [madeCells, hj, Nat.mod_one]

theorem int_info : (Tryz.prog.info? 3).map (fun i => (i.zero, i.size, i.bytes)) = some (some (.int .i64 0), 1, 8) := by kernel_rfl
theorem bool_info : (Tryz.prog.info? 4).map (fun i => (i.zero, i.size, i.bytes)) = some (some (.bool false), 1, 1) := by kernel_rfl
theorem make_ints (n : Nat) (hn : n ≤ 40) (w : World) : (Instr.makeSlice 94 (.int .i64 (n : Int)) (.int .i64 (n : Int))).run Tryz.prog w = .ok (.slice (some ⟨w.heap.size, 0, none⟩) n n) (w.alloc (.cells (madeCells #[.int .i64 0] n) 3)) := by
  obtain ⟨i0, hi, hz0, hz1, hz2⟩ := info_parts int_info
  have hr := run_make (P := Tryz.prog) w 94 3 i0 _ Tryz.underlying94 hi hz0 .i64 .i64 n n (by omega) (by omega) (by rw [hz2]; omega) (by omega)
  simp only [Int.toNat_natCast, hz1, Nat.mul_one] at hr
  exact hr
theorem make_bools (n : Nat) (hn : n ≤ 40) (w : World) : (Instr.makeSlice 76 (.int .i64 (n : Int)) (.int .i64 (n : Int))).run Tryz.prog w = .ok (.slice (some ⟨w.heap.size, 0, none⟩) n n) (w.alloc (.cells (madeCells #[.bool false] n) 4)) := by
  obtain ⟨i0, hi, hz0, hz1, hz2⟩ := info_parts bool_info
  have hr := run_make (P := Tryz.prog) w 76 4 i0 _ Tryz.underlying76 hi hz0 .i64 .i64 n n (by omega) (by omega) (by rw [hz2]; omega) (by omega)
  simp only [Int.toNat_natCast, hz1, Nat.mul_one] at hr
  exact hr

/-- What a check returns: a function that returns the code of each inode. -/
def CheckPost (t : Tr) (k : Nat) (w : World) (e : Ending) (w' : World) : Prop :=
  ∃ g caps, e = .returned (.func (.func g) #[] caps) ∧ Below w.heap.size w w' ∧ (∀ args w, (callFunc g args).run Tryz.prog w = .ok (.enter g args) w) ∧
    ∀ W, Below w'.heap.size w' W → ∀ n, n < t.length → Calls Tryz.prog g (#[.int .i64 (n : Int)] ++ caps) W fun e W' => e = .returned (.int .i64 (codeK t k n)) ∧ Below W.heap.size W W'

theorem eg_field1 : ∀ args w, (callFunc 59 args).run Tryz.prog w = .ok (.enter 59 args) w := enters_of Tryz.func59 (by kernel_rfl) rfl
set_option maxRecDepth 100000 in
set_option maxHeartbeats 400000 in
theorem fieldCheck_any (a : Option Addr) (c : Nat) (t : Tr) (w : World) (h : Nods w w.heap.size a c t) :
    Calls Tryz.prog 44 #[.agg #[.slice a t.length c]] w (CheckPost t 0 w) := by
  have H := Lib.hid h
  clear h
  go_enter Tryz.func44, Tryz.ntmps44
  go_wp2
  go_ret
  refine ⟨_, _, rfl, (Below.refl _ _).alloc (Nat.le_refl _) _, eg_field1, fun W hW n hn => ?_⟩
  have hb : Below w.heap.size w W := ((Below.refl _ _).alloc (Nat.le_refl _) _).trans (hW.mono (by simp))
  exact fieldCheck1_any a c t n w.heap.size W (H.out.up hb) ((One.new w _ _).below hW (by simp)) hn

end Go.Proofs.YtoeiaffkedkepaaGreatDoor

/- Slices of strings in memory, appends of several strings to an own row, ascending lists with given members. Conditions: as each theorem states. -/
namespace Go.Proofs.YtoeiaffkedkepaaGreatDoor
open Go.RowKit

theorem own_le {w : World} {base base' n size : Nat} {e : TypeId} {v : Value} {xs : List Value} (h : w.ownsRow base e size v n xs) (hb : base' ≤ base) : w.ownsRow base' e size v n xs := by
  refine ⟨h.1, ?_⟩
  rcases h.2 with h0 | ⟨g, cap, cur, h1, h2, h3⟩
  · exact .inl h0
  · exact .inr ⟨g, cap, cur, h1, by omega, h3⟩
theorem own_empty (w : World) (base n : Nat) (t : TypeId) (hb : base ≤ w.heap.size) (hn : n = w.heap.size) : (w.alloc (.cells #[] t)).ownsRow base t 1 (.slice (some ⟨n, 0, none⟩) 0 0) 0 [] := by
  subst hn
  exact ⟨rfl, .inr ⟨_, 0, #[], rfl, hb, heap_alloc_new w _, Nat.le_refl _, Nat.zero_le _, rfl, rfl⟩⟩
/-- An append of a list of strings to an owned row, as a step of a region that draws its order. -/
theorem step_append_strs {w : World} {ops : Array Oper} {o : Oper} {a : Act} {K : Act → World → Prop} {Q : Exit → Act → World → Prop} {E : Prop} (hgd : o.guard = none) (s x : Operand)
    (ho : o.op = .call { callee := .builtin .append, args := #[s, x], argTypes := #[26, 26] })
    (base : Nat) (v : Value) (n : Nat) (xs : List Value) (hs : a.eval s = v) (hown : w.ownsRow base 9 1 v n xs)
    (B : Nat) (u : Value) (ys : List ByteArray) (hx : a.eval x = u) (hA : Strs w B u ys)
    (hn : n + ys.length ≤ 13194139532928) (hbase : base ≤ w.heap.size)
    (hK : ∀ v' w', w'.ownsRow base 9 1 v' (n + ys.length) (xs ++ ys.map Value.string) → w.grownBy w' v.ownBlock → K (a.put o.dst v') w') :
    if Region.wanted o (yielded ops a.tmps) = true then Oper.wp Tryz.prog o a w K Q else E := by
  have hw : Region.wanted o (yielded ops a.tmps) = true := by simp [Region.wanted, hgd]
  rw [if_pos hw]
  obtain ⟨i, hi, hz0, hz1, hz2⟩ := info_parts str_info
  obtain ⟨ad, c, rfl, hc, hl, hf, hcell⟩ := hA
  have h1 : ∀ y ∈ ys.map Value.string, y.oneCell' = true := fun z hz => by
    obtain ⟨x, _, rfl⟩ := List.mem_map.1 hz; rfl
  have key : ∀ g : Addr, ad = some g → (∀ j u, (ys.map Value.string)[j]? = some u → w.cell? (g.add j) = some u) → Oper.wp Tryz.prog o a w K Q := fun g hg hcl => by
    subst hg
    obtain ⟨v', w', hrun, r1, r2, _⟩ := run_append_own_wide (P := Tryz.prog) w base 26 o.type 9 i _ 1 16 Tryz.underlying26 hi hz0 hz1 hz2 rfl (by decide) v n xs hown g ys.length c (ys.map Value.string) (by simp) hcl h1 (by unfold maxLen; omega) (by omega) hbase
    unfold Oper.wp
    simp [execOp, ho, resolve, invoke, builtin, hs, hx, hrun, Result.andThen]
    exact hK v' w' r1 r2
  by_cases h0 : ys.length = 0
  · have he : ys = [] := List.eq_nil_of_length_eq_zero h0
    subst he
    cases ad with
    | none =>
      have hrun : (Builtin.append_ #[26, 26] o.type #[v, .slice none 0 c]).run Tryz.prog w = .ok v w := by
        rcases hown.2 with ⟨rfl, _⟩ | ⟨g, cap, cur, rfl, _, _, hnc, _⟩
        · simp [Builtin.append_, run_underlying Tryz.underlying26, sizeOf, typeInfo, hi, Builtin.lenOf, Builtin.firstCells]
        · simp [Builtin.append_, run_underlying Tryz.underlying26, sizeOf, typeInfo, hi, Builtin.lenOf, Builtin.firstCells, hnc, storeCells]
      unfold Oper.wp
      simp [execOp, ho, resolve, invoke, builtin, hs, hx, hrun, Result.andThen]
      exact hK v w (by simpa using hown) (World.grownBy.refl _ _)
    | some g => exact key g rfl (by intro j u hu; simp at hu)
  · obtain ⟨b, of, rfl, hB, hj⟩ := hcell (by omega)
    refine key _ rfl fun j u hu => ?_
    have hjl : j < ys.length := by
      have := (List.getElem?_eq_some_iff.1 hu).1
      simpa using this
    have e : u = .string (ys.getD j ByteArray.empty) := by
      rw [List.getElem?_map, List.getElem?_eq_getElem hjl] at hu
      rw [strD hjl]
      exact (Option.some.inj hu).symm
    have hadd : (⟨b, of, none⟩ : Addr).add j = ⟨b, of + j, none⟩ := by unfold Addr.add; split <;> simp_all
    rw [e, hadd]
    exact hj j hjl
theorem Strs.empty (w : World) (B : Nat) (a : Option Addr) (c : Nat) : Strs w B (.slice a 0 c) [] :=
  ⟨a, c, rfl, by simp, by simp, by simp, fun h => absurd h (by simp)⟩
theorem Strs.cut {w : World} {B : Nat} {a : Option Addr} {n c : Nat} {xs : List ByteArray} (h : Strs w B (.slice a n c) xs) {k : Nat} (hk : k ≤ n) : Strs w B (.slice a k c) (xs.take k) := by
  obtain ⟨a', c', hv, hc, hl, hf, hx⟩ := h
  injection hv with h1 hn h2
  subst h1 h2 hn
  have hlen : (xs.take k).length = k := by simp; omega
  refine ⟨a, c, by rw [hlen], by omega, by omega, fun e he => hf e (List.mem_of_mem_take he), fun h0 => ?_⟩
  obtain ⟨b, o, ha, hB, hj⟩ := hx (by omega)
  refine ⟨b, o, ha, hB, fun j h => ?_⟩
  have e : (xs.take k).getD j ByteArray.empty = xs.getD j ByteArray.empty := by
    rw [List.getD_eq_getElem?_getD, List.getD_eq_getElem?_getD, List.getElem?_take_of_lt (by omega)]
  rw [e]; exact hj j (by omega)
theorem Strs.from_ {w : World} {B b o n c : Nat} {xs : List ByteArray} (h : Strs w B (.slice (some ⟨b, o, none⟩) n c) xs) {k : Nat} (hk : k ≤ n) : Strs w B (.slice (some ⟨b, o + k, none⟩) (n - k) (c - k)) (xs.drop k) := by
  obtain ⟨a', c', hv, hc, hl, hf, hx⟩ := h
  injection hv with h1 hn h2
  subst h1 h2 hn
  have hlen : (xs.drop k).length = xs.length - k := by simp
  refine ⟨_, c - k, by rw [hlen], by omega, by omega, fun e he => hf e (List.mem_of_mem_drop he), fun h0 => ?_⟩
  obtain ⟨b', o', ha, hB, hj⟩ := hx (by omega)
  injection ha with ha
  injection ha with ha1 ha2
  subst ha1 ha2
  refine ⟨b, _, rfl, hB, fun j h => ?_⟩
  have e : (xs.drop k).getD j ByteArray.empty = xs.getD (k + j) ByteArray.empty := by
    rw [List.getD_eq_getElem?_getD, List.getD_eq_getElem?_getD, List.getElem?_drop]
  rw [e]
  have := hj (k + j) (by omega)
  rw [show o + k + j = o + (k + j) by omega]; exact this

theorem ins_new {l : List ByteArray} (hl : Asc l) {s : ByteArray} {k : Nat} (hk : k ≤ l.length) (h1 : ∀ j, j < k → ltS (l.getD j ByteArray.empty) s = true) (h2 : k < l.length → ltS (l.getD k ByteArray.empty) s = false ∧ l.getD k ByteArray.empty ≠ s) : insU l s = l.take k ++ [s] ++ l.drop k := by
  have hp := posU_of hl hk h1 (fun h => (h2 h).1)
  unfold insU
  rw [hp, if_neg]
  rw [hasU_iff]
  intro hm
  obtain ⟨j, hj, e⟩ := List.mem_iff_getElem.1 hm
  rw [← strD hj] at e
  by_cases hjk : j < k
  · exact ltS_ne (h1 j hjk) e
  · obtain ⟨q1, q2⟩ := h2 (by omega)
    by_cases e2 : j = k
    · subst e2; exact q2 e
    · have h3 := List.pairwise_iff_getElem.1 hl k j (by omega) hj (by omega)
      rw [← strD, ← strD, e, q1] at h3
      cases h3
theorem Strs.drew {w : World} {B : Nat} {v : Value} {xs : List ByteArray} (h : Strs w B v xs) : Strs w.drew B v xs := h
theorem strs_cell {w : World} {B g : Nat} {y : ByteArray} (hc : w.cell? ⟨g, 0, none⟩ = some (.string y)) (hg : g < B) (hy : y.size ≤ maxLen) : Strs w B (.slice (some ⟨g, 0, none⟩) 1 1) [y] := by
  refine ⟨_, _, rfl, by simp, by simp, by simpa using hy, fun _ => ⟨_, _, rfl, hg, ?_⟩⟩
  intro j hj
  match j, hj with
  | 0, _ => simpa using hc
theorem cell_grown {w w' : World} {row : Option Nat} (hg : w.grownBy w' row) {n : Nat} {u : Value} (hc : w.cell? ⟨n, 0, none⟩ = some u) (hn : some n ≠ row) : w'.cell? ⟨n, 0, none⟩ = some u := by
  have hlt : n < w.heap.size := by
    rcases Nat.lt_or_ge n w.heap.size with hlt | hge
    · exact hlt
    · unfold World.cell? at hc; rw [Array.getElem?_eq_none hge] at hc; simp at hc
  exact (World.cell?_of_block (a := ⟨n, 0, none⟩) (hg.block n hlt hn)).trans hc
theorem Strs.spot {w : World} {B n c : Nat} {a : Option Addr} {xs : List ByteArray} (h : Strs w B (.slice a n c) xs) (h0 : 0 < xs.length) : ∃ b o, a = some ⟨b, o, none⟩ ∧ b < B ∧ ∀ j, j < xs.length → w.cell? ⟨b, o + j, none⟩ = some (.string (xs.getD j ByteArray.empty)) := by
  obtain ⟨a', c', hv, _, _, _, hx⟩ := h
  injection hv with h1 _ h2
  subst h1
  exact hx h0
theorem Strs.form {w : World} {B n : Nat} {v : Value} {xs : List ByteArray} (h : Strs w B v xs) (hn : xs.length = n) : ∃ a c, v = .slice a n c ∧ n ≤ c := by
  subst hn
  obtain ⟨a, c, hv, hc, _⟩ := h
  exact ⟨a, c, hv, hc⟩
theorem Strs.none_ (w : World) (B : Nat) : Strs w B (.slice none 0 0) [] :=
  ⟨none, 0, rfl, by simp, by simp, by simp, fun h => absurd h (by simp)⟩
theorem cell_al {w : World} {b o : Nat} {v : Value} (h : w.cell? ⟨b, o, none⟩ = some v) (x : Obj) : (w.alloc x).cell? ⟨b, o, none⟩ = some v :=
  (((Below.refl w.heap.size w).alloc (Nat.le_refl _) x).cell (p := ⟨b, o, none⟩) (cell_lt h)).trans h
/-- What holds at the head of the outer loop. -/
structure SNv (w wr : World) (acc : List ByteArray) (v : Value) : Prop where
  B : Below w.heap.size w wr
  own : wr.ownsRow w.heap.size 9 1 v acc.length (acc.map Value.string)
theorem SNv.drewN {w wr : World} {acc : List ByteArray} {v : Value} (h : SNv w wr acc v) (q : Nat) : SNv w (wr.drewN q) acc v := ⟨below_drewN h.B q, h.own⟩
/-- An ascending list with these members. -/
def AscOf (P L : List ByteArray) : Prop := Asc P ∧ ∀ x, x ∈ P ↔ x ∈ L
theorem ascOf_ins {acc L : List ByteArray} {s : ByteArray} {k : Nat} (h : Asc acc) (hm : ∀ x, x ∈ acc ↔ x ∈ L) (hk : k ≤ acc.length) (h1 : ∀ j, j < k → ltS (acc.getD j ByteArray.empty) s = true) (h2 : k < acc.length → ltS s (acc.getD k ByteArray.empty) = true) : Asc (acc.take k ++ [s] ++ acc.drop k) ∧ ∀ x, x ∈ acc.take k ++ [s] ++ acc.drop k ↔ x ∈ L ++ [s] := by
  have hlt : ∀ a ∈ acc.take k, ltS a s = true := by
    intro a ha
    obtain ⟨j, hj, rfl⟩ := List.mem_iff_getElem.1 ha
    rw [List.length_take] at hj
    rw [List.getElem_take, ← strD (by omega)]
    exact h1 j (by omega)
  have hgt : ∀ a ∈ acc.drop k, ltS s a = true := by
    intro a ha
    obtain ⟨j, hj, rfl⟩ := List.mem_iff_getElem.1 ha
    rw [List.length_drop] at hj
    rw [List.getElem_drop]
    have h3 := h2 (by omega)
    by_cases hj0 : j = 0
    · subst hj0
      rw [← strD (by omega)]; exact h3
    · have h4 := List.pairwise_iff_getElem.1 h k (k + j) (by omega) (by omega) (by omega)
      rw [strD (by omega)] at h3
      exact ltS_trans h3 h4
  constructor
  · unfold Asc at h ⊢
    rw [List.pairwise_append, List.pairwise_append]
    refine ⟨⟨h.sublist (List.take_sublist _ _), List.pairwise_singleton _ _, fun a ha c hc => ?_⟩, h.sublist (List.drop_sublist _ _), fun a ha c hc => ?_⟩
    · obtain rfl : c = s := by simpa using hc
      exact hlt a ha
    · rcases List.mem_append.1 ha with ha | ha
      · exact ltS_trans (hlt a ha) (hgt c hc)
      · obtain rfl : a = s := by simpa using ha
        exact hgt c hc
  · intro x
    rw [List.mem_append, List.mem_append, List.mem_append, ← hm x]
    conv => rhs; lhs; rw [← List.take_append_drop k acc]
    rw [List.mem_append]
    constructor
    · rintro ((h | h) | h)
      · exact .inl (.inl h)
      · exact .inr h
      · exact .inl (.inr h)
    · rintro ((h | h) | h)
      · exact .inl (.inl h)
      · exact .inr h
      · exact .inl (.inr h)
/-- What a function leaves that returns these strings in ascending order. -/
def SortPost (L : List ByteArray) (w : World) (e : Ending) (w' : World) : Prop := ∃ v P, e = .returned v ∧ AscOf P L ∧ Strs w' w'.heap.size v P ∧ (∀ q, v.ownBlock = some q → w.heap.size ≤ q) ∧ Below w.heap.size w w'

end Go.Proofs.YtoeiaffkedkepaaGreatDoor

/- slices.IndexFunc and slices.DeleteFunc at slices of strings, with a function that may make memory of its own. Conditions: the function answers p of its string wherever all blocks but the slice's own are as they were, and leaves memory below as it was; the slice is a row of the call's own. -/
namespace Go.Proofs.YtoeiaffkedkepaaGreatDoor
open Go.RowKit

theorem grown_of_below {w W : World} (hb : Below w.heap.size w W) (row : Option Nat) : w.grownBy W row := ⟨hb.os, hb.tape, hb.output, hb.size, fun i hi _ => hb.block i hi⟩

set_option maxHeartbeats 800000 in
theorem indexS_any (gf : FuncId) (a1 : Addr) (eg : ∀ args w, (callFunc gf args).run Tryz.prog w = .ok (.enter gf args) w) (p : ByteArray → Bool) (g c : Nat) (xs : List ByteArray) (w : World)
    (R : Row w g xs.length (fun j => .string (xs.getD j ByteArray.empty))) (hl : xs.length ≤ 35184372088832) (hc : xs.length ≤ c)
    (hp : ∀ W x, x ∈ xs → Below w.heap.size w W → Calls Tryz.prog gf #[.string x, .pointer (some a1)] W fun e w' => e = .returned (.bool (p x)) ∧ Below W.heap.size W w') :
    Calls Tryz.prog 39 #[.slice (some ⟨g, 0, none⟩) xs.length c, .func (.func gf) #[] #[.pointer (some a1)]] w fun e w' =>
      (∃ k : Nat, k ≤ xs.length ∧ (∀ j, j < k → p (xs.getD j ByteArray.empty) = false) ∧ ((k = xs.length ∧ e = .returned (.int .i64 (-1))) ∨ (k < xs.length ∧ p (xs.getD k ByteArray.empty) = true ∧ e = .returned (.int .i64 k)))) ∧ Below w.heap.size w w' := by
  have HP := Lib.hid hp
  have RR := Lib.hid R
  clear hp R
  go_enter Tryz.func39, Tryz.ntmps39
  go_wp2
  go_loopg [8] xs.length (fun gg s8 wr => ∃ k : Nat, s8 = .int .i64 k ∧ k ≤ xs.length ∧ xs.length - k ≤ gg ∧ Aside (Below w.heap.size w wr ∧ ∀ j, j < k → p (xs.getD j ByteArray.empty) = false))
  case atStart => exact ⟨0, rfl, Nat.zero_le _, by omega, (show _ ∧ _ from ⟨Below.refl _ _, fun j hj => absurd hj (Nat.not_lt_zero _)⟩)⟩
  case round =>
    obtain ⟨k, rfl, hk, hg, A⟩ := hrel
    obtain ⟨BW, hno⟩ := A.out
    have NO := Lib.hid hno
    have BW' := Lib.hid BW
    have hs := BW.size
    clear A hno BW
    by_cases hlt : k < xs.length
    · have hltz : (k : Int) < (xs.length : Int) := by omega
      have hck := (RR.out.below BW'.out RR.out.lt).c k hlt
      have hcall := fun W hb => HP.out W (xs.getD k ByteArray.empty) (by rw [getD_eq hlt]; exact List.getElem_mem hlt) hb
      cases hq : p (xs.getD k ByteArray.empty) with
      | true =>
        rw [hq] at hcall
        have HQ := Lib.hid hq
        have HC := Lib.hid hcall
        clear hq hcall
        generalize xs.getD k ByteArray.empty = y at hck HC
        go_wp2_with (go_at_fn gf; refine (HC.out _ BW'.out).mono ?_; rintro e w' ⟨rfl, hb'⟩)
        go_ret
        exact ⟨⟨k, hk, NO.out, .inr ⟨hlt, HQ.out, rfl⟩⟩, BW'.out.trans (hb'.mono hs)⟩
      | false =>
        rw [hq] at hcall
        have HQ := Lib.hid (show ∀ j, j < k + 1 → p (xs.getD j ByteArray.empty) = false from fun j hj => by
          by_cases e : j = k
          · subst e; exact hq
          · exact NO.out j (by omega))
        have HC := Lib.hid hcall
        clear hq hcall
        generalize xs.getD k ByteArray.empty = y at hck HC
        go_wp2_with (go_at_fn gf; refine (HC.out _ BW'.out).mono ?_; rintro e w' ⟨rfl, hb'⟩)
        go_roundg (xs.length - (k + 1))
        case measure => omega
        case rel => exact ⟨k + 1, by go_num, by omega, by omega, (show _ ∧ _ from ⟨BW'.out.trans (hb'.mono hs), HQ.out⟩)⟩
    · go_wp2
      go_ret
      exact ⟨⟨k, hk, NO.out, .inl ⟨by omega, rfl⟩⟩, BW'.out⟩
theorem eg_indexS : ∀ args w, (callFunc 39 args).run Tryz.prog w = .ok (.enter 39 args) w := enters_of Tryz.func39 (by kernel_rfl) rfl

theorem zeroS (w : World) : (zeroValue 9).run Tryz.prog w = .ok (.string ⟨#[]⟩) w := by kernel_rfl
theorem bang_get (xs : List ByteArray) (j : Nat) : xs.toArray[j]! = xs.getD j ByteArray.empty := by
  rw [List.getElem!_toArray, List.getD_eq_getElem?_getD]
  cases h : xs[j]? with
  | none => rw [List.getElem!_eq_getElem?_getD, h]; rfl
  | some y => rw [List.getElem!_eq_getElem?_getD, h]; rfl
theorem setCells_size (b : Nat) : ∀ (vs : List Value) (o : Nat) (w : World), (w.setCells b o vs).heap.size = w.heap.size
  | [], _, _ => rfl
  | v :: r, o, w => by rw [World.setCells, setCells_size b r]; simp
theorem Row.setCells {w : World} {g m n i : Nat} {f : Nat → Value} (h : Row w g m f) (hi : n ≤ i) (hn : n ≤ m) (vs : List Value) : Row (w.setCells g i vs) g n f :=
  ⟨by rw [show (w.setCells g i vs).heap.size = w.heap.size from setCells_size g vs i w]; exact h.lt, fun j hj => by rw [World.cell?_setCells_out g vs i w ⟨g, j, none⟩ (fun _ _ => .inl (by simp only; omega))]; exact h.c j (by omega), fun j => by rw [World.frozen?_setCells]; exact h.fz j⟩

theorem grown_setCell (w : World) (a : Addr) (u : Value) : w.grownBy (w.setCell a u) (some a.block) :=
  ⟨rfl, rfl, rfl, by simp, fun k _ hk => heap_setCell_other w a k u (fun e => hk (by rw [e]))⟩
theorem grown_setCells (g : Nat) : ∀ (vs : List Value) (o : Nat) (w : World), w.grownBy (w.setCells g o vs) (some g)
  | [], _, w => World.grownBy.refl w _
  | v :: r, o, w => (grown_setCell w ⟨g, o, none⟩ v).trans (grown_setCells g r (o + 1) _)

set_option maxHeartbeats 1600000 in
theorem deleteS_any (gf : FuncId) (a1 : Addr) (eg : ∀ args w, (callFunc gf args).run Tryz.prog w = .ok (.enter gf args) w) (p : ByteArray → Bool) (g c : Nat) (xs : List ByteArray) (w : World)
    (R : Row w g xs.length (fun j => .string (xs.getD j ByteArray.empty))) (hl : xs.length ≤ 35184372088832) (hc : xs.length ≤ c) (hcm : c ≤ maxLen)
    (hp : ∀ W x, x ∈ xs → w.grownBy W (some g) → Calls Tryz.prog gf #[.string x, .pointer (some a1)] W fun e w' => e = .returned (.bool (p x)) ∧ Below W.heap.size W w') :
    Calls Tryz.prog 20 #[.slice (some ⟨g, 0, none⟩) xs.length c, .func (.func gf) #[] #[.pointer (some a1)]] w fun e w' =>
      e = .returned (.slice (some ⟨g, 0, none⟩) (xs.filter fun x => !p x).length c) ∧ Row w' g (xs.filter fun x => !p x).length (fun j => .string ((xs.filter fun x => !p x).getD j ByteArray.empty)) ∧ w.grownBy w' (some g) := by
  have hIF := indexS_any gf a1 eg p g c xs w R hl hc (fun W x hx hb => hp W x hx (grown_of_below hb _))
  have RR := Lib.hid R
  have HP := Lib.hid hp
  unfold maxLen at hcm
  clear R hp
  have hbang := bang_get xs
  obtain ⟨kp, HK⟩ : ∃ kp : Nat → Bool, RowKit.Hid (kp = fun j => !p (xs.toArray[j]!)) := ⟨_, Lib.hid rfl⟩
  have hfil : (xs.filter fun x => !p x) = Lib.keptUpTo kp xs.toArray xs.toArray.size := by
    rw [HK.out]; exact (Lib.keptUpTo_filter (fun x => !p x) xs.toArray).symm
  have hsz : xs.toArray.size = xs.length := by simp
  rw [hsz] at hfil
  rw [hfil]
  have HF := Lib.hid hfil
  have HIF := Lib.hid hIF
  clear hfil hIF
  go_enter Tryz.func20, Tryz.ntmps20
  go_wp2_with fail
  refine HIF.out.mono ?_
  rintro e w1 ⟨⟨k0, hk0, hno, hend⟩, b1⟩
  have NO := Lib.hid hno
  clear hno
  rcases hend with ⟨hk, rfl⟩ | ⟨hk, hpk, rfl⟩
  · have hall : Lib.keptUpTo kp xs.toArray xs.length = xs := by
      rw [← HF.out, List.filter_eq_self]
      intro x hx
      obtain ⟨j, hj, rfl⟩ := List.getElem_of_mem hx
      have := NO.out j (by omega)
      rw [getD_eq hj] at this
      rw [this]; rfl
    have HA := Lib.hid hall
    have R1 := Lib.hid (RR.out.below b1 RR.out.lt)
    have BB := Lib.hid b1
    clear hall b1
    go_wp2
    go_ret
    rw [HA.out]
    exact ⟨rfl, R1.out, grown_of_below BB.out _⟩
  · have hkeep : ∀ j, j < k0 → kp j = true := fun j hj => by rw [HK.out]; show (!p (xs.toArray[j]!)) = true; rw [hbang, NO.out j hj]; rfl
    have hdrop : kp k0 = false := by rw [HK.out]; show (!p (xs.toArray[k0]!)) = false; rw [hbang, hpk]; rfl
    have hne1 : ((k0 : Int) == -1) = false := beq_eq_false_iff_ne.2 (by omega)
    have I0 := Lib.hid (Lib.KeptInv.start (d := xs.toArray) hkeep hdrop)
    have R1 := Lib.hid ((RR.out.below b1 RR.out.lt).ext (g := fun j => .string (xs.toArray[j]!)) (fun j _ => by rw [hbang]))
    have G1 := Lib.hid (grown_of_below b1 (some g))
    clear hkeep hdrop hpk NO b1 HIF RR
    go_wp2_with fail
    go_loopg [5, 6] xs.length (fun gg s5 s6 wr => ∃ (i j : Nat) (dk : Array ByteArray), s5 = .int .i64 i ∧ s6 = .int .i64 j ∧ j ≤ xs.length ∧ xs.length - j ≤ gg ∧ Aside (Lib.KeptInv kp xs.toArray j i dk ∧ Row wr g xs.length (fun j => .string (dk[j]!)) ∧ w.grownBy wr (some g)))
    case atStart => exact ⟨k0, k0 + 1, xs.toArray, rfl, by go_num, by omega, by omega, (show _ ∧ _ from ⟨I0.out, R1.out, G1.out⟩)⟩
    case round =>
      obtain ⟨i, j, dk, rfl, rfl, hjd, hgg, A⟩ := hrel
      obtain ⟨hI, hR, hG⟩ := A.out
      have hij := hI.lt
      have hds := hI.size
      rw [hsz] at hds
      have I := Lib.hid hI
      have RW := Lib.hid hR
      have GW := Lib.hid hG
      clear A hI hR hG I0 R1 G1
      by_cases hlt : j < xs.length
      · have hltz : (j : Int) < (xs.length : Int) := by omega
        have cj := RW.out.c j hlt
        have ci := RW.out.c i (by omega)
        have fi := RW.out.fz i
        have gl := RW.out.lt
        rw [I.out.high j (by omega)] at cj
        have hmem : xs.toArray[j]! ∈ xs := by rw [hbang, getD_eq hlt]; exact List.getElem_mem hlt
        have hcall := HP.out wr _ hmem GW.out
        obtain ⟨u, hu⟩ : ∃ u, xs.toArray[j]! = u := ⟨_, rfl⟩
        have HU := Lib.hid hu
        rw [hu] at cj hcall
        clear hu hmem
        generalize dk[i]! = old at ci
        cases hq : p u with
        | false =>
          rw [hq] at hcall
          have HQ := Lib.hid hq
          have HC := Lib.hid hcall
          clear hq hcall
          go_wp2_with (go_at_fn gf; refine HC.out.mono ?_; rintro e w' ⟨rfl, hb'⟩; have ci' := (hb'.cell (p := ⟨g, i, none⟩) gl).trans ci; have fi' := (hb'.frozen (p := ⟨g, i, none⟩) gl).trans fi)
          go_roundg (xs.length - (j + 1))
          case measure => omega
          case rel =>
            refine ⟨i + 1, j + 1, dk.setIfInBounds i u, by go_num, by go_num, by omega, Nat.le_refl _, (show _ ∧ _ from ⟨?_, ?_, ?_⟩)⟩
            · have := I.out.keep (by rw [hsz]; exact hlt) (by rw [HK.out]; show (!p (xs.toArray[j]!)) = true; rw [HU.out, HQ.out]; rfl)
              rwa [HU.out] at this
            · refine ((RW.out.below hb' gl).put (i := i) (by omega) (.string u)).ext (fun j' hj' => ?_)
              by_cases e : j' = i
              · subst e; rw [if_pos rfl, Sort.getElem!_set_same dk j' _ (by omega)]
              · rw [if_neg e, Sort.getElem!_set_other dk i j' _ e]
            · exact (GW.out.trans (grown_of_below hb' _)).trans (grown_setCell w' ⟨g, i, none⟩ _)
        | true =>
          rw [hq] at hcall
          have HQ := Lib.hid hq
          have HC := Lib.hid hcall
          clear hq hcall
          go_wp2_with (go_at_fn gf; refine HC.out.mono ?_; rintro e w' ⟨rfl, hb'⟩)
          go_roundg (xs.length - (j + 1))
          case measure => omega
          case rel =>
            exact ⟨i, j + 1, dk, rfl, by go_num, by omega, Nat.le_refl _, (show _ ∧ _ from ⟨I.out.skip (by rw [HK.out]; show (!p (xs.toArray[j]!)) = false; rw [HU.out, HQ.out]; rfl), RW.out.below hb' gl, GW.out.trans (grown_of_below hb' _)⟩)⟩
      · obtain rfl : j = xs.length := by omega
        have hltz : ¬ (xs.length : Int) < (xs.length : Int) := by omega
        have hcl : ∀ ty, (Builtin.clear_ #[26] ty #[.slice (some ⟨g, i, none⟩) (xs.length - i) (c - i)]).run Tryz.prog wr = .ok (.tuple #[]) (wr.setCells g i (List.replicate (xs.length - i) (.string ⟨#[]⟩))) :=
          fun ty => Lib.run_clear_slice wr _ _ ty _ Tryz.underlying26 zeroS rfl rfl g i _ _ (by omega) (fun t ht => by rw [RW.out.c (i + t) (by omega)]; rfl) (fun t ht => RW.out.fz (i + t))
        have hlen := I.out.len
        rw [show Lib.keptUpTo kp xs.toArray xs.length = Lib.keptUpTo kp xs.toArray xs.length from rfl] at hlen
        have hlow := Lib.hid (fun j hj => I.out.low j hj)
        have hil := I.out.lt
        have HL := Lib.hid hlen
        clear hlen
        go_wp2
        go_ret
        refine ⟨by rw [HL.out]; rfl, ?_, GW.out.trans (grown_setCells g _ _ wr)⟩
        rw [HL.out]
        refine ((RW.out.setCells (n := i) (i := i) (Nat.le_refl _) (by omega) _)).ext (fun j hj => ?_)
        have h9 := hlow.out j hj
        generalize (Lib.keptUpTo kp xs.toArray xs.length)[j]? = z at h9 ⊢
        subst h9; rfl

end Go.Proofs.YtoeiaffkedkepaaGreatDoor

/- pathCheck: what the walk marks, and the function that pathCheck returns. Conditions: the tree's directories are referred to once; its cells lie in memory as they read. -/
namespace Go.Proofs.YtoeiaffkedkepaaGreatDoor
open Go.RowKit

/-- The two rows that the walk marks, and the variables that hold them. -/
structure PMark (W : World) (m p3 p4 R1 R2 : Nat) (L : List Vis) : Prop where
  r1 : Row W R1 m (fun j => .bool (hasL L j))
  r2 : Row W R2 m (fun j => .bool (farL L j))
  v1 : One W p3 (.slice (some ⟨R1, 0, none⟩) m m)
  v2 : One W p4 (.slice (some ⟨R2, 0, none⟩) m m)
theorem PMark.below {W W' : World} {m p3 p4 R1 R2 B : Nat} {L : List Vis} (h : PMark W m p3 p4 R1 R2 L) (hb : Below B W W') (h1 : R1 < B) (h2 : R2 < B) (h3 : p3 < B) (h4 : p4 < B) : PMark W' m p3 p4 R1 R2 L :=
  ⟨h.r1.below hb h1, h.r2.below hb h2, h.v1.below hb h3, h.v2.below hb h4⟩
theorem Strs.setLow {W : World} {B : Nat} {v : Value} {xs : List ByteArray} (h : Strs W B v xs) {H0 : Nat} (hv : ∀ q, v.ownBlock = some q → H0 ≤ q) {p : Addr} (hp : p.block < H0) (u : Value) : Strs (W.setCell p u) B v xs := by
  obtain ⟨a, c, rfl, hc, hl, hs, hx⟩ := h
  refine ⟨a, c, rfl, hc, hl, hs, fun h0 => ?_⟩
  obtain ⟨b, o, rfl, hB, hj⟩ := hx h0
  have := hv b rfl
  exact ⟨b, o, rfl, hB, fun j hjl => (World.cell?_setCell_other W p _ u (fun e => by rw [e] at hp; simp at hp; omega)).trans (hj j hjl)⟩
theorem Kept.set {S : Nat → Prop} {a b : World} {row : Option Nat} (h : Kept S row a b) {R i : Nat} (hS : S R) (u : Value) : Kept S row a (b.setCell ⟨R, i, none⟩ u) :=
  h.trans ⟨rfl, rfl, rfl, by simp, fun k _ hs _ => Below.heap_setCell b _ u k (fun e => hs (by rw [e]; exact hS))⟩

set_option maxRecDepth 100000 in
set_option maxHeartbeats 1600000 in
theorem pathMark_any (m p3 p4 R1 R2 H0 : Nat) (d1 : R1 < p3) (d2 : p3 < R2) (d3 : R2 < p4) (d4 : p4 < H0) (W : World) (L : List Vis) (xs : List ByteArray) (n : Nat) (v : Value) (hH : H0 ≤ W.heap.size) (h : PMark W m p3 p4 R1 R2 L) (hn : n < m) (_hm : m ≤ 40) (hx : Strs W W.heap.size v xs) (hv : ∀ q, v.ownBlock = some q → H0 ≤ q) :
    Calls Tryz.prog 67 #[v, .int .i64 (n : Int), .pointer (some ⟨p3, 0, none⟩), .pointer (some ⟨p4, 0, none⟩)] W fun e W' => e = .returned (.tuple #[]) ∧ PMark W' m p3 p4 R1 R2 (L ++ [(xs, n)]) ∧ Kept (fun b => b = R1 ∨ b = R2) none W W' := by
  have nlz : (n : Int) < (m : Int) := by omega
  have nz : (0 : Int) ≤ (n : Int) := Int.natCast_nonneg _
  have HC := Lib.hid (pathJoin_any v xs (W.setCell ⟨R1, n, none⟩ (.bool true)) (by simpa using hx.setLow hv (p := ⟨R1, n, none⟩) (by simp; omega) (.bool true)))
  have HT := Lib.hid (show tooFar xs = decide ((joinF xs).1 ≠ 0) from rfl)
  unfold joinV faultV at HC
  generalize joinS xs = S at *
  generalize (joinF xs).2 = ji at *
  generalize (joinF xs).1 = jc at *
  have c1 := h.v1.c0
  have rc := h.r1.c n hn
  have rz := h.r1.fz n
  have rl := h.r1.lt
  have M1 := Lib.hid (show Row (W.setCell ⟨R1, n, none⟩ (.bool true)) R1 m (fun j => .bool (hasL (L ++ [(xs, n)]) j)) ∧ Row (W.setCell ⟨R1, n, none⟩ (.bool true)) R2 m (fun j => .bool (farL L j)) ∧ One (W.setCell ⟨R1, n, none⟩ (.bool true)) p3 (.slice (some ⟨R1, 0, none⟩) m m) ∧ One (W.setCell ⟨R1, n, none⟩ (.bool true)) p4 (.slice (some ⟨R2, 0, none⟩) m m) from
    ⟨(h.r1.put hn (.bool true)).ext (fun j _ => by
      rw [hasL_snoc]
      by_cases e : j = n
      · subst e; simp
      · rw [if_neg e, decide_eq_false (fun h => e h.symm), Bool.or_false]), h.r2.far (by simp; omega) _, h.v1.far (by simp; omega) _, h.v2.far (by simp; omega) _⟩)
  clear hx h
  have hl9 : R2 < W.heap.size := by omega
  have hl8 : p4 < W.heap.size := by omega
  have hl7 : p3 < W.heap.size := by omega
  by_cases hj : jc = 0
  · subst hj
    have HF := Lib.hid (show ∀ j, farL (L ++ [(xs, n)]) j = farL L j from fun j => by rw [farL_snoc]; simp only; rw [HT.out]; simp)
    go_enter Tryz.func67, Tryz.ntmps67
    go_wp2_with fail
    refine HC.out.mono ?_
    rintro e W2 ⟨rfl, b2⟩
    have s2 := b2.size
    simp only [World.size_setCell] at s2
    have MM := Lib.hid (show PMark (W2.alloc (.cells #[.int .i64 0, .int .i64 ji] 28)) m p3 p4 R1 R2 (L ++ [(xs, n)]) from
      ⟨(M1.out.1.below b2 M1.out.1.lt).alloc _, ((M1.out.2.1.below b2 M1.out.2.1.lt).ext (fun j _ => by rw [HF.out])).alloc _, (M1.out.2.2.1.below b2 M1.out.2.2.1.lt).alloc _, (M1.out.2.2.2.below b2 M1.out.2.2.2.lt).alloc _⟩)
    have KK := Lib.hid (show Kept (fun b => b = R1 ∨ b = R2) none W (W2.alloc (.cells #[.int .i64 0, .int .i64 ji] 28)) from
      (((Kept.refl _ _ _).set (.inl rfl) _).trans (Kept.of_below b2)).trans (Kept.of_below ((Below.refl _ _).alloc (Nat.le_refl _) _)))
    clear b2
    go_wp2
    go_end0
    exact ⟨rfl, MM.out, KK.out⟩
  · have hj1 : (jc != 0) = true := by simpa using hj
    have hj2 : (jc == 0) = false := by simpa using hj
    have HF := Lib.hid (show ∀ j, (if j = n then Value.bool true else Value.bool (farL L j)) = .bool (farL (L ++ [(xs, n)]) j) from fun j => by
      rw [farL_snoc]
      simp only
      rw [HT.out]
      by_cases e : j = n
      · subst e; simp [hj]
      · rw [if_neg e, decide_eq_false (fun h => e h.symm), Bool.false_and, Bool.or_false])
    clear hj
    go_enter Tryz.func67, Tryz.ntmps67
    go_wp2_with fail
    refine HC.out.mono ?_
    rintro e W2 ⟨rfl, b2⟩
    have s2 := b2.size
    simp only [World.size_setCell] at s2
    have c2 := ((M1.out.2.2.2.below b2 M1.out.2.2.2.lt)).c0
    have X2 := Lib.hid (M1.out.2.1.below b2 M1.out.2.1.lt)
    have rc2 := X2.out.c n hn
    have rz2 := X2.out.fz n
    have rl2 := X2.out.lt
    have hl2 : p4 < W2.heap.size := by omega
    have MM := Lib.hid (show PMark ((W2.setCell ⟨R2, n, none⟩ (.bool true)).alloc (.cells #[.int .i64 jc, .int .i64 ji] 28)) m p3 p4 R1 R2 (L ++ [(xs, n)]) from
      ⟨((M1.out.1.below b2 M1.out.1.lt).far (by simp; omega) _).alloc _, ((X2.out.put hn _).ext (fun j _ => HF.out j)).alloc _, ((M1.out.2.2.1.below b2 M1.out.2.2.1.lt).far (by simp; omega) _).alloc _, ((M1.out.2.2.2.below b2 M1.out.2.2.2.lt).far (by simp; omega) _).alloc _⟩)
    have KK := Lib.hid (show Kept (fun b => b = R1 ∨ b = R2) none W ((W2.setCell ⟨R2, n, none⟩ (.bool true)).alloc (.cells #[.int .i64 jc, .int .i64 ji] 28)) from
      ((((Kept.refl _ _ _).set (.inl rfl) _).trans (Kept.of_below b2)).set (.inr rfl) _).trans (Kept.of_below ((Below.refl _ _).alloc (Nat.le_refl _) _)))
    clear b2
    go_wp2
    go_end0
    exact ⟨rfl, MM.out, KK.out⟩

set_option maxRecDepth 100000 in
set_option maxHeartbeats 800000 in
theorem pathCheck2_any (a : Option Addr) (c : Nat) (t : Tr) (n pt p3 p4 R1 R2 : Nat) (w : World) (h : Nods w w.heap.size a c t) (hp : One w pt (.slice a t.length c)) (hM : PMark w t.length p3 p4 R1 R2 (visits t 0)) (hn : n < t.length) :
    Calls Tryz.prog 68 #[.int .i64 (n : Int), .pointer (some ⟨pt, 0, none⟩), .pointer (some ⟨p3, 0, none⟩), .pointer (some ⟨p4, 0, none⟩)] w fun e w' => e = .returned (.int .i64 (codeP t n)) ∧ Below w.heap.size w w' := by
  have nlz : (n : Int) < (t.length : Int) := by omega
  have nz : (0 : Int) ≤ (n : Int) := Int.natCast_nonneg _
  have HU := Lib.hid (isUsed_any a c t (n : Int) w h)
  have hu : used t (n : Int) = decide ((nod t n).k ≠ 0) := by
    rw [used_at nz nlz, Int.toNat_natCast, Bool.eq_iff_iff]; simp
  have HF := Lib.hid (show codeP t n = if (nod t n).k ≠ 0 ∧ hasL (visits t 0) n = false then 11 else if farL (visits t 0) n = true then 10 else 0 from rfl)
  rw [hu] at HU
  have hpc := hp.c0
  have hpl := hp.lt
  have c1 := hM.v1.c0
  have c2 := hM.v2.c0
  have r1 := hM.r1.c n hn
  have r2 := hM.r2.c n hn
  have l1 := hM.v1.lt
  have l2 := hM.v2.lt
  have l3 := hM.r1.lt
  have l4 := hM.r2.lt
  clear h hp hM hu
  generalize codeP t n = r at *
  generalize hasL (visits t 0) n = x at *
  generalize farL (visits t 0) n = y at *
  generalize (nod t n).k = k at *
  have post : ∀ (x y : Bool) (u : Bool) (r : Int), r = (if u = true ∧ x = false then 11 else if y = true then 10 else 0) → True := fun _ _ _ _ _ => trivial
  clear post
  by_cases hk : k ≠ 0
  · rw [decide_eq_true hk] at HU
    cases x with
    | false =>
      rw [if_pos ⟨hk, rfl⟩] at HF
      clear hk
      go_enter Tryz.func68, Tryz.ntmps68
      go_wp2_with fail
      refine HU.out.mono ?_
      rintro e w2 ⟨rfl, b2⟩
      have k1 := (b2.cell (p := ⟨p3, 0, none⟩) l1).trans c1
      have k2 := (b2.cell (p := ⟨R1, n, none⟩) l3).trans r1
      have B2 := Lib.hid b2
      clear b2
      go_wp2
      go_ret
      exact ⟨ret_int HF.out.symm, B2.out⟩
    | true =>
      rw [if_neg (by simp)] at HF
      clear hk
      cases y with
      | false =>
        rw [if_neg (by simp)] at HF
        go_enter Tryz.func68, Tryz.ntmps68
        go_wp2_with fail
        refine HU.out.mono ?_
        rintro e w2 ⟨rfl, b2⟩
        have k1 := (b2.cell (p := ⟨p3, 0, none⟩) l1).trans c1
        have k2 := (b2.cell (p := ⟨R1, n, none⟩) l3).trans r1
        have k3 := (b2.cell (p := ⟨p4, 0, none⟩) l2).trans c2
        have k4 := (b2.cell (p := ⟨R2, n, none⟩) l4).trans r2
        have B2 := Lib.hid b2
        clear b2
        go_wp2
        go_ret
        exact ⟨ret_int HF.out.symm, B2.out⟩
      | true =>
        rw [if_pos rfl] at HF
        go_enter Tryz.func68, Tryz.ntmps68
        go_wp2_with fail
        refine HU.out.mono ?_
        rintro e w2 ⟨rfl, b2⟩
        have k1 := (b2.cell (p := ⟨p3, 0, none⟩) l1).trans c1
        have k2 := (b2.cell (p := ⟨R1, n, none⟩) l3).trans r1
        have k3 := (b2.cell (p := ⟨p4, 0, none⟩) l2).trans c2
        have k4 := (b2.cell (p := ⟨R2, n, none⟩) l4).trans r2
        have B2 := Lib.hid b2
        clear b2
        go_wp2
        go_ret
        exact ⟨ret_int HF.out.symm, B2.out⟩
  · rw [decide_eq_false hk] at HU
    rw [if_neg (fun h => hk h.1)] at HF
    clear hk
    cases y with
    | false =>
      rw [if_neg (by simp)] at HF
      go_enter Tryz.func68, Tryz.ntmps68
      go_wp2_with fail
      refine HU.out.mono ?_
      rintro e w2 ⟨rfl, b2⟩
      have k3 := (b2.cell (p := ⟨p4, 0, none⟩) l2).trans c2
      have k4 := (b2.cell (p := ⟨R2, n, none⟩) l4).trans r2
      have B2 := Lib.hid b2
      clear b2
      go_wp2
      go_ret
      exact ⟨ret_int HF.out.symm, B2.out⟩
    | true =>
      rw [if_pos rfl] at HF
      go_enter Tryz.func68, Tryz.ntmps68
      go_wp2_with fail
      refine HU.out.mono ?_
      rintro e w2 ⟨rfl, b2⟩
      have k3 := (b2.cell (p := ⟨p4, 0, none⟩) l2).trans c2
      have k4 := (b2.cell (p := ⟨R2, n, none⟩) l4).trans r2
      have B2 := Lib.hid b2
      clear b2
      go_wp2
      go_ret
      exact ⟨ret_int HF.out.symm, B2.out⟩

theorem foldl_snoc {α : Type} : ∀ (l acc : List α), l.foldl (fun L p => L ++ [p]) acc = acc ++ l
  | [], acc => by simp
  | a :: l, acc => by rw [List.foldl_cons, foldl_snoc l]; simp
theorem eg_path1 : ∀ args w, (callFunc 67 args).run Tryz.prog w = .ok (.enter 67 args) w := enters_of Tryz.func67 (by kernel_rfl) rfl
theorem eg_path2 : ∀ args w, (callFunc 68 args).run Tryz.prog w = .ok (.enter 68 args) w := enters_of Tryz.func68 (by kernel_rfl) rfl

set_option maxRecDepth 100000 in
set_option maxHeartbeats 1600000 in
theorem pathCheck_any (a : Option Addr) (c : Nat) (t : Tr) (w : World) (h2 : Ok2 t) (h : Nods w w.heap.size a c t) :
    Calls Tryz.prog 46 #[.agg #[.slice a t.length c]] w (CheckPost t 2 w) := by
  have H := Lib.hid h
  have H2 := Lib.hid h2
  have hmk := make_bools t.length h2.le
  clear h h2
  have MM := Lib.hid (show PMark (((((w.alloc (.cells #[.slice a t.length c] 24)).alloc (.cells (madeCells #[.bool false] t.length) 4)).alloc (.cells #[.slice (some ⟨w.heap.size + 1, 0, none⟩) t.length t.length] 76)).alloc (.cells (madeCells #[.bool false] t.length) 4)).alloc (.cells #[.slice (some ⟨w.heap.size + 1 + 1 + 1, 0, none⟩) t.length t.length] 76)) t.length (w.heap.size + 1 + 1) (w.heap.size + 1 + 1 + 1 + 1) (w.heap.size + 1) (w.heap.size + 1 + 1 + 1) [] from
    ⟨(((((row_new (w.alloc _) t.length (.bool false) _).alloc _).alloc _).alloc _).at_ (by simp)).ext (fun _ _ => rfl), ((((row_new (((w.alloc _).alloc _).alloc _) t.length (.bool false) _).alloc _)).at_ (by simp)).ext (fun _ _ => rfl), (((One.new ((w.alloc _).alloc _) _ _).alloc _).alloc _).at_ (by simp), (One.new ((((w.alloc _).alloc _).alloc _).alloc _) _ _).at_ (by simp)⟩)
  have TB := Lib.hid (show One (((((w.alloc (.cells #[.slice a t.length c] 24)).alloc (.cells (madeCells #[.bool false] t.length) 4)).alloc (.cells #[.slice (some ⟨w.heap.size + 1, 0, none⟩) t.length t.length] 76)).alloc (.cells (madeCells #[.bool false] t.length) 4)).alloc (.cells #[.slice (some ⟨w.heap.size + 1 + 1 + 1, 0, none⟩) t.length t.length] 76)) w.heap.size (.slice a t.length c) from
    ((((One.new w _ _).alloc _).alloc _).alloc _).alloc _)
  have BB := Lib.hid (show Below w.heap.size w (((((w.alloc (.cells #[.slice a t.length c] 24)).alloc (.cells (madeCells #[.bool false] t.length) 4)).alloc (.cells #[.slice (some ⟨w.heap.size + 1, 0, none⟩) t.length t.length] 76)).alloc (.cells (madeCells #[.bool false] t.length) 4)).alloc (.cells #[.slice (some ⟨w.heap.size + 1 + 1 + 1, 0, none⟩) t.length t.length] 76)) from
    (((((Below.refl _ _).alloc (Nat.le_refl _) _).alloc (by first | omega | (simp; done) | (simp; omega)) _).alloc (by first | omega | (simp; done) | (simp; omega)) _).alloc (by first | omega | (simp; done) | (simp; omega)) _).alloc (by first | omega | (simp; done) | (simp; omega)) _)
  go_enter Tryz.func46, Tryz.ntmps46
  go_wp2_with fail
  have VV : Visitor t 0 67 #[.pointer (some ⟨w.heap.size + 1 + 1, 0, none⟩), .pointer (some ⟨w.heap.size + 1 + 1 + 1 + 1, 0, none⟩)] (fun b => b = w.heap.size + 1 ∨ b = w.heap.size + 1 + 1 + 1) (w.heap.size + 5) (fun W L => PMark W t.length (w.heap.size + 1 + 1) (w.heap.size + 1 + 1 + 1 + 1) (w.heap.size + 1) (w.heap.size + 1 + 1 + 1) L) (fun L p => L ++ [p]) := by
    refine ⟨eg_path1, fun b hb => by omega, fun W W' s hI hb => hI.below hb (by omega) (by omega) (by omega) (by omega), fun W s xs n v hH hI hr hx hv => ?_⟩
    have hnr := H2.out.toOk1.rch hr H2.out.ne (by rw [H2.out.root]; simp)
    exact pathMark_any t.length _ _ _ _ (w.heap.size + 5) (by omega) (by omega) (by omega) (by omega) W s xs n v hH hI hnr.1 H2.out.le hx hv
  have HW := walk_any VV H2.out.toOk1 H2.out.from0 (Bt := w.heap.size) (by omega) (fun b hb => by omega) a c _ [] (H.out.below BB.out) (by first | omega | (simp; done) | (simp; omega)) MM.out
  clear VV
  refine HW.mono ?_
  rintro e W2 ⟨rfl, I2, K2⟩
  rw [foldl_snoc, List.nil_append] at I2
  have T2 := Lib.hid (TB.out.kept K2 (by omega) (by simp))
  have B2 := Lib.hid (BB.out.trans (K2.below (by first | omega | (simp; done) | (simp; omega)) (fun k hk => by omega) (by simp)))
  have M2 := Lib.hid I2
  clear I2 K2 HW
  go_wp2
  go_ret
  refine ⟨_, _, rfl, B2.out, eg_path2, fun W hW n hn => ?_⟩
  exact pathCheck2_any a c t n w.heap.size _ _ _ _ W (H.out.up (B2.out.trans (hW.mono B2.out.size))) (T2.out.below hW T2.out.lt) (M2.out.below hW M2.out.r1.lt M2.out.r2.lt M2.out.v1.lt M2.out.v2.lt) hn

end Go.Proofs.YtoeiaffkedkepaaGreatDoor

/- usage and quotaCheck. Conditions: all inodes that are not free are reached; the tree's cells lie in memory as they read. -/
namespace Go.Proofs.YtoeiaffkedkepaaGreatDoor
open Go.RowKit

theorem One.set {w : World} {n : Nat} {v : Value} (h : One w n v) (u : Value) : One (w.setCell ⟨n, 0, none⟩ u) n u :=
  ⟨by simpa using h.lt, World.cell?_setCell_same _ _ _ h.c0, by simpa using h.f0⟩
/-- What is counted so far. -/
structure UInv (W : World) (t : Tr) (a : Option Addr) (c pt ptot R pc Bt : Nat) (L : List Vis) : Prop where
  row : Row W R t.length (fun j => .bool (hasL L j))
  cv : One W pc (.slice (some ⟨R, 0, none⟩) t.length t.length)
  tot : One W ptot (.int .i64 (usg t L : Nat))
  tb : One W pt (.slice a t.length c)
  nd : Nods W Bt a c t
theorem UInv.below {W W' : World} {t : Tr} {a : Option Addr} {c pt ptot R pc Bt B : Nat} {L : List Vis} (h : UInv W t a c pt ptot R pc Bt L) (hb : Below B W W') (h1 : R < B) (h2 : ptot < B) (h3 : pc < B) (h4 : pt < B) (h5 : Bt ≤ B) : UInv W' t a c pt ptot R pc Bt L :=
  ⟨h.row.below hb h1, h.cv.below hb h3, h.tot.below hb h2, h.tb.below hb h4, h.nd.below (hb.mono h5)⟩

set_option maxRecDepth 100000 in
set_option maxHeartbeats 1600000 in
theorem usage1_any (t : Tr) (h1 : Ok1 t) (a : Option Addr) (c pt ptot R pc Bt : Nat) (d0 : Bt ≤ pt) (d1 : pt < ptot) (d2 : ptot < R) (d3 : R < pc) (W : World) (L : List Vis) (xs : List ByteArray) (n : Nat) (v : Value) (hp : pc < W.heap.size) (h : UInv W t a c pt ptot R pc Bt L) (hn : n < t.length) :
    Calls Tryz.prog 85 #[v, .int .i64 (n : Int), .pointer (some ⟨pc, 0, none⟩), .pointer (some ⟨ptot, 0, none⟩), .pointer (some ⟨pt, 0, none⟩)] W fun e W' => e = .returned (.tuple #[]) ∧ UInv W' t a c pt ptot R pc Bt (L ++ [(xs, n)]) ∧ Kept (fun b => b = R ∨ b = ptot) none W W' := by
  have nlz : (n : Int) < (t.length : Int) := by omega
  have nz : (0 : Int) ≤ (n : Int) := Int.natCast_nonneg _
  obtain ⟨b, o, ve, vd, va, vx, rfl, hb, hc, hs⟩ := h.nd.one hn
  obtain ⟨da, dc, rfl, _⟩ := hs.dl
  have h3 := hc.c3
  have hdl := (h1.fine n).dl
  have hul := usg_le h1 L
  have r0 := h.row.c n hn
  have rz := h.row.fz n
  have rl := h.row.lt
  have c0 := h.cv.c0
  have t0 := h.tot.c0
  have tz := h.tot.f0
  have b0 := h.tb.c0
  have hl5 : ptot < W.heap.size := by omega
  have hl6 : pt < W.heap.size := by omega
  have HI := Lib.hid h
  have HU := Lib.hid (usg_snoc (L := L) (p := (xs, n)) hn)
  clear hc hs h h1
  cases hx : hasL L n with
  | true =>
    rw [hx] at r0
    have HL := Lib.hid (show UInv W t (some ⟨b, o, none⟩) c pt ptot R pc Bt (L ++ [(xs, n)]) from
      ⟨HI.out.row.ext (fun j _ => by
        rw [hasL_snoc]
        by_cases e : n = j
        · subst e; simp [hx]
        · simp [e]), HI.out.cv, by rw [HU.out, if_pos hx]; exact HI.out.tot, HI.out.tb, HI.out.nd⟩)
    clear hx HU
    go_enter Tryz.func85, Tryz.ntmps85
    go_wp2
    go_end0
    exact ⟨rfl, HL.out, Kept.refl _ _ _⟩
  | false =>
    rw [hx] at r0
    have HR := Lib.hid (fun (f : Nat → Value) (hf : ∀ j, j < t.length → f j = (if j = n then Value.bool true else Value.bool (hasL L j))) j (hj : j < t.length) => (show f j = .bool (hasL (L ++ [(xs, n)]) j) from by
      rw [hf j hj, hasL_snoc]
      by_cases e : j = n
      · subst e; simp
      · rw [if_neg e, decide_eq_false (fun h => e h.symm), Bool.or_false]))
    have HU2 := Lib.hid (show usg t (L ++ [(xs, n)]) = usg t L + (nod t n).dl from by rw [HU.out, if_neg (by rw [hx]; simp)])
    clear hx HU
    have RR := Lib.hid (HI.out.row.put hn (.bool true))
    have HV := HI.out.nd
    generalize hu : usg t L = u at *
    generalize hd : (nod t n).dl = d at *
    have b1 : (W.setCell ⟨R, n, none⟩ (.bool true)).cell? ⟨ptot, 0, none⟩ = some (.int .i64 (u : Int)) := (World.cell?_setCell_other _ _ _ _ (by first | omega | (simp; done) | (simp; omega))).trans t0
    have b2 : (W.setCell ⟨R, n, none⟩ (.bool true)).cell? ⟨pt, 0, none⟩ = some (.slice (some ⟨b, o, none⟩) t.length c) := (World.cell?_setCell_other _ _ _ _ (by first | omega | (simp; done) | (simp; omega))).trans b0
    have b3 : (W.setCell ⟨R, n, none⟩ (.bool true)).cell? ⟨b, o + n * 8 + 3, none⟩ = some (.slice da d dc) := (World.cell?_setCell_other _ _ _ _ (by first | omega | (simp; done) | (simp; omega))).trans h3
    have FF := Lib.hid (show UInv ((W.setCell ⟨R, n, none⟩ (.bool true)).drew.setCell ⟨ptot, 0, none⟩ (.int .i64 ((u : Int) + (d : Int)))) t (some ⟨b, o, none⟩) c pt ptot R pc Bt (L ++ [(xs, n)]) from
      ⟨((show Row (W.setCell ⟨R, n, none⟩ (.bool true)).drew R t.length _ from ⟨RR.out.lt, RR.out.c, RR.out.fz⟩).far (by first | omega | (simp; done) | (simp; omega)) _).ext (HR.out _ (fun _ _ => rfl)), ((HI.out.cv.far (p := ⟨R, n, none⟩) (by first | omega | (simp; done) | (simp; omega)) (.bool true)).drew).far (by first | omega | (simp; done) | (simp; omega)) _, by
        have := ((HI.out.tot.far (p := ⟨R, n, none⟩) (by first | omega | (simp; done) | (simp; omega)) (.bool true)).drew).set (.int .i64 ((u : Int) + (d : Int)))
        rw [HU2.out]
        have e : ((u + d : Nat) : Int) = (u : Int) + (d : Int) := by omega
        rw [e]; exact this, ((HI.out.tb.far (p := ⟨R, n, none⟩) (by first | omega | (simp; done) | (simp; omega)) (.bool true)).drew).far (by first | omega | (simp; done) | (simp; omega)) _, HV.keep fun b' o' hb' => (World.cell?_setCell_other _ _ _ _ (by first | omega | (simp; done) | (simp; omega))).trans (World.cell?_setCell_other W _ _ _ (by first | omega | (simp; done) | (simp; omega)))⟩)
    have KK := Lib.hid (show Kept (fun b => b = R ∨ b = ptot) none W ((W.setCell ⟨R, n, none⟩ (.bool true)).drew.setCell ⟨ptot, 0, none⟩ (.int .i64 ((u : Int) + (d : Int)))) from
      (((Kept.refl _ _ _).set (.inl rfl) _).trans (Kept.of_below (Below.refl _ _).drew)).set (.inr rfl) _)
    have dz : (0 : Int) ≤ (d : Int) := Int.natCast_nonneg _
    have uz : (0 : Int) ≤ (u : Int) := Int.natCast_nonneg _
    go_enter Tryz.func85, Tryz.ntmps85
    have hwr : IntKind.i64.wrap ((u : Int) + (d : Int)) = (u : Int) + (d : Int) := IntWalk.i64_in _ (by omega)
    go_wp2
    go_region
    all_goals
      go_end0
      exact ⟨rfl, FF.out, KK.out⟩

end Go.Proofs.YtoeiaffkedkepaaGreatDoor

/- referenceCheck: how many entries refer to each inode, and the function that it returns. Conditions: the tree's inodes are valid by themselves; its cells lie in memory as they read. -/
namespace Go.Proofs.YtoeiaffkedkepaaGreatDoor
open Go.RowKit

def cntE (l : List DE) (n : Nat) : Nat := l.countP fun e => decide (e.i = (n : Int))
theorem cntE_snoc (l : List DE) (e : DE) (n : Nat) : cntE (l ++ [e]) n = cntE l n + if e.i = (n : Int) then 1 else 0 := by
  unfold cntE
  rw [List.countP_append]
  by_cases h : e.i = (n : Int) <;> simp [h]
/-- The entries ahead of entry k of inode i. -/
def upto (t : Tr) (i k : Nat) : List DE := (t.take i).flatMap (·.es) ++ (kids t i).take k
theorem upto_zero (t : Tr) : upto t 0 0 = [] := by unfold upto; simp
theorem upto_succ {t : Tr} {i k : Nat} (h : k < (kids t i).length) : upto t i (k + 1) = upto t i k ++ [(kids t i).getD k D0] := by
  unfold upto
  rw [List.take_succ_eq_append_getElem h, deD h, List.append_assoc]
theorem upto_next {t : Tr} {i : Nat} (h : i < t.length) : upto t i (kids t i).length = upto t (i + 1) 0 := by
  unfold upto
  rw [List.take_length, List.take_succ_eq_append_getElem h, List.flatMap_append, List.take_zero, List.append_nil]
  simp [kids, nod_at h]
theorem upto_all (t : Tr) (n : Nat) : cntE (upto t t.length 0) n = refs t n := by
  unfold upto refs cntE
  rw [List.take_length, List.take_zero, List.append_nil]
theorem cnt_le {t : Tr} (h : Ok1 t) (i k n : Nat) (hi : i ≤ t.length) : cntE (upto t i k) n ≤ 1000 := by
  have h1 : cntE (upto t i k) n ≤ (upto t i k).length := List.countP_le_length
  have h2 : (upto t i k).length ≤ 16 * i + 16 := by
    unfold upto
    rw [List.length_append, List.length_take]
    have h3 : ((t.take i).flatMap (·.es)).length ≤ (t.take i).length * 16 := by
      rw [List.length_flatMap]
      have := sum_le_mul (l := (t.take i).map fun x => x.es.length) (m := 16) (by
        intro x hx
        obtain ⟨y, hy, rfl⟩ := List.mem_map.1 hx
        obtain ⟨j, hj, rfl⟩ := List.mem_iff_getElem.1 (List.mem_of_mem_take hy)
        rw [← nod_at hj]
        exact (h.fine j).len)
      simpa using this
    have h4 := (h.fine i).len
    change (kids t i).length ≤ 16 at h4
    rw [List.length_take] at h3
    omega
  have := h.le
  omega

set_option maxRecDepth 100000 in
set_option maxHeartbeats 1600000 in
theorem refCheck1_any (a : Option Addr) (c : Nat) (t : Tr) (n pt pr R : Nat) (w : World) (h1 : Ok1 t) (h : Nods w w.heap.size a c t) (hp : One w pt (.slice a t.length c)) (hr : One w pr (.slice (some ⟨R, 0, none⟩) t.length t.length)) (hR : Row w R t.length (fun j => .int .i64 (refs t j : Nat))) (hn : n < t.length) :
    Calls Tryz.prog 66 #[.int .i64 (n : Int), .pointer (some ⟨pt, 0, none⟩), .pointer (some ⟨pr, 0, none⟩)] w fun e w' => e = .returned (.int .i64 (codeLk t n)) ∧ Below w.heap.size w w' := by
  obtain ⟨b, o, ve, vd, va, vx, rfl, hb, hc, hs⟩ := h.one hn
  have hk := (h1.fine n).kind
  have nlz : (n : Int) < (t.length : Int) := by omega
  have nz : (0 : Int) ≤ (n : Int) := Int.natCast_nonneg _
  have HF := Lib.hid (show codeLk t n = if ((nod t n).k = 1 ∧ n ≠ 0 ∧ refs t n ≠ 1) ∨ ((nod t n).k = 2 ∧ refs t n = 0) then 11 else 0 from rfl)
  have h0 := hc.c0
  have hpc := hp.c0
  have hrc := hr.c0
  have hRc := hR.c n hn
  clear hc hs h hp hr hR h1
  generalize codeLk t n = r at *
  generalize refs t n = q at *
  generalize (nod t n).k = k at *
  rcases hk with rfl | rfl | rfl
  · rw [if_neg (by rintro (h | h); exact absurd h.1 (by decide); exact absurd h.1 (by decide))] at HF
    go_enter Tryz.func66, Tryz.ntmps66
    go_wp2
    go_ret
    exact ⟨ret_int HF.out.symm, Below.refl _ _⟩
  · by_cases hn0 : n = 0
    · subst hn0
      rw [if_neg (by rintro (h | h); exact h.2.1 rfl; exact absurd h.1 (by decide))] at HF
      have hx : (((0 : Nat) : Int) != 0) = false := by decide
      have h0 : w.cell? ⟨b, o, none⟩ = some (.int .i64 1) := by simpa using h0
      go_enter Tryz.func66, Tryz.ntmps66
      go_wp2
      go_ret
      exact ⟨ret_int HF.out.symm, Below.refl _ _⟩
    · have hx : ((n : Int) != 0) = true := by simpa using hn0
      by_cases hq : q = 1
      · subst hq
        rw [if_neg (by rintro (h | h); exact h.2.2 rfl; exact absurd h.1 (by decide))] at HF
        clear hn0
        go_enter Tryz.func66, Tryz.ntmps66
        go_wp2
        go_ret
        exact ⟨ret_int HF.out.symm, Below.refl _ _⟩
      · have hy : ((q : Int) != 1) = true := by rw [bne_iff_ne]; omega
        rw [if_pos (.inl ⟨rfl, hn0, hq⟩)] at HF
        clear hn0 hq
        go_enter Tryz.func66, Tryz.ntmps66
        go_wp2
        go_ret
        exact ⟨ret_int HF.out.symm, Below.refl _ _⟩
  · by_cases hq : q = 0
    · subst hq
      rw [if_pos (.inr ⟨rfl, rfl⟩)] at HF
      have hy : (((0 : Nat) : Int) == 0) = true := by decide
      go_enter Tryz.func66, Tryz.ntmps66
      go_wp2
      go_ret
      exact ⟨ret_int HF.out.symm, Below.refl _ _⟩
    · have hy : ((q : Int) == 0) = false := by rw [beq_eq_false_iff_ne]; omega
      rw [if_neg (by rintro (h | h); exact absurd h.1 (by decide); exact hq h.2)] at HF
      clear hq
      go_enter Tryz.func66, Tryz.ntmps66
      go_wp2
      go_ret
      exact ⟨ret_int HF.out.symm, Below.refl _ _⟩

theorem eg_ref1 : ∀ args w, (callFunc 66 args).run Tryz.prog w = .ok (.enter 66 args) w := enters_of Tryz.func66 (by kernel_rfl) rfl
/-- What holds while the entries are counted. -/
structure RInv (w wr : World) (t : Tr) (a : Option Addr) (c pt R pr i k : Nat) : Prop where
  b : Below w.heap.size w wr
  tb : One wr pt (.slice a t.length c)
  rb : One wr pr (.slice (some ⟨R, 0, none⟩) t.length t.length)
  row : Row wr R t.length (fun j => .int .i64 (cntE (upto t i k) j : Nat))
theorem RInv.step {w wr z : World} {t : Tr} {a : Option Addr} {c pt R pr i k : Nat} (h : RInv w wr t a c pt R pr i k) (hb : Below wr.heap.size wr z) : RInv w z t a c pt R pr i k :=
  ⟨h.b.trans (hb.mono h.b.size), h.tb.below hb h.tb.lt, h.rb.below hb h.rb.lt, h.row.below hb h.row.lt⟩
theorem RInv.cnt {w wr : World} {t : Tr} {a : Option Addr} {c pt R pr i k : Nat} (h : RInv w wr t a c pt R pr i k) (hw : w.heap.size ≤ R) (h1 : R ≠ pt) (h2 : R ≠ pr) {x : ByteArray} {m : Nat} (hk : k < (kids t i).length) (he : (kids t i).getD k D0 = ⟨x, (m : Int)⟩) (hm : m < t.length) {u : Int} (hu : u = (cntE (upto t i k) m : Nat) + 1) :
    RInv w (wr.setCell ⟨R, m, none⟩ (.int .i64 u)) t a c pt R pr i (k + 1) := by
  refine ⟨h.b.setCell hw _, h.tb.far (by simpa using h1.symm) _, h.rb.far (by simpa using h2.symm) _, (h.row.put hm _).ext fun j hj => ?_⟩
  rw [upto_succ hk, cntE_snoc, he]
  simp only
  by_cases e : j = m
  · subst e; rw [if_pos rfl, if_pos rfl, hu]; congr 1
  · rw [if_neg e, if_neg (by omega)]; congr 1

set_option maxRecDepth 100000 in
set_option maxHeartbeats 3200000 in
theorem referenceCheck_any (a : Option Addr) (c : Nat) (t : Tr) (w : World) (h1 : Ok1 t) (h : Nods w w.heap.size a c t) :
    Calls Tryz.prog 45 #[.agg #[.slice a t.length c]] w (CheckPost t 1 w) := by
  have H := Lib.hid h
  have H1 := Lib.hid h1
  have hmk := make_ints t.length h1.le
  have h40 := h1.le
  clear h h1
  go_enter Tryz.func45, Tryz.ntmps45
  go_wp2_with fail
  have I0 := Lib.hid (show RInv w (((w.alloc (.cells #[.slice a t.length c] 24)).alloc (.cells (madeCells #[.int .i64 0] t.length) 3)).alloc (.cells #[.slice (some ⟨w.heap.size + 1, 0, none⟩) t.length t.length] 94)) t a c w.heap.size (w.heap.size + 1) (w.heap.size + 1 + 1) 0 0 from
    ⟨(((Below.refl _ _).alloc (Nat.le_refl _) _).alloc (by first | omega | (simp; done) | (simp; omega)) _).alloc (by first | omega | (simp; done) | (simp; omega)) _, ((One.new w _ _).alloc _).alloc _, (One.new ((w.alloc _).alloc _) _ _).at_ (by simp), (((row_new (w.alloc _) t.length (.int .i64 0) _).alloc _).at_ (by simp)).ext (fun j _ => by rw [upto_zero]; rfl)⟩)
  have o1 : w.heap.size < w.heap.size + 1 := by omega
  have o2 : w.heap.size + 1 < w.heap.size + 1 + 1 := by omega
  generalize w.heap.size + 1 + 1 = pr at *
  generalize w.heap.size + 1 = R at *
  go_loopg [5, 7, 15] t.length (fun gg _ _ s15 wr => ∃ i : Nat, i ≤ t.length ∧ t.length - i ≤ gg ∧ s15 = .int .i64 i ∧ Aside (RInv w wr t a c w.heap.size R pr i 0))
  case atStart => exact ⟨0, by omega, by omega, rfl, I0.out⟩
  case round =>
    obtain ⟨i, hi, hg, rfl, I⟩ := hrel
    clear I0
    obtain ⟨w2, rfl⟩ : ∃ w2 : World, w2 = wr := ⟨_, rfl⟩
    by_cases hlt : i < t.length
    · have hltz : (i : Int) < (t.length : Int) := by omega
      have hm9 : t.length - (i + 1) < t.length - i := Nat.sub_lt_sub_left hlt (Nat.lt_succ_self i)
      obtain ⟨b, o, ve, vd, va, vx, rfl, hb, hc, hs⟩ := (H.out.below I.out.b).one hlt
      obtain ⟨ea, ec, rfl, hec, hel, hef, hex⟩ := hs.es
      obtain ⟨da, dc, rfl, _⟩ := hs.dl
      obtain ⟨aa, acp, rfl, _⟩ := hs.ac
      obtain ⟨xa, xc, rfl, _⟩ := hs.xs
      have h0 := hc.c0
      have h1 := hc.c1
      have h2 := hc.c2
      have h3 := hc.c3
      have h4 := hc.c4
      have h5 := hc.c5
      have h6 := hc.c6
      have h7 := hc.c7
      change (kids t i).length ≤ ec at hec
      change (kids t i).length ≤ 35184372088832 at hel
      change w2.cell? ⟨b, o + i * 8 + 2, none⟩ = some (.slice ea (kids t i).length ec) at h2
      have HEX := Lib.hid (show 0 < (kids t i).length → ∃ b o, ea = some ⟨b, o, none⟩ ∧ b < w.heap.size ∧ ∀ j, j < (kids t i).length →
        w2.cell? ⟨b, o + j * 2, none⟩ = some (.string ((kids t i).getD j D0).n) ∧ w2.cell? ⟨b, o + j * 2 + 1, none⟩ = some (.int .i64 ((kids t i).getD j D0).i) from hex)
      have HKD := Lib.hid (fun k (hk : k < (kids t i).length) => H1.out.kid (show (kids t i).getD k D0 ∈ kids t i from by rw [deD hk]; exact List.getElem_mem hk))
      have HCL := Lib.hid (fun k q => cnt_le H1.out i k q hi)
      have HUN := Lib.hid (upto_next hlt)
      clear hc hs hef hex
      have hbs := I.out.b.size
      generalize hm : (kids t i).length = m at *
      generalize (nod t i).k = gk at *
      generalize (nod t i).o = go at *
      generalize (nod t i).dl = gd at *
      generalize (nod t i).ac.length = ga at *
      generalize (nod t i).xs.length = gx at *
      generalize (nod t i).q = gq at *
      generalize (nod t i).v = gv at *
      have I1 := Lib.hid (I.out.step ((Below.refl w2.heap.size w2).alloc (Nat.le_refl _) (.cells #[.int .i64 gk, .int .i64 go, .slice ea m ec, .slice da gd dc, .slice aa ga acp, .slice xa gx xc, .int .i64 gq, .int .i64 gv] 50)))
      have W1 := Lib.hid ((Below.refl w2.heap.size w2).alloc (Nat.le_refl _) (.cells #[.int .i64 gk, .int .i64 go, .slice ea m ec, .slice da gd dc, .slice aa ga acp, .slice xa gx xc, .int .i64 gq, .int .i64 gv] 50))
      go_wp2_with fail
      go_loopg [7, 22] m (fun gg _ s22 wq => ∃ k : Nat, k ≤ m ∧ m - k ≤ gg ∧ s22 = .int .i64 k ∧ Aside (Below w.heap.size w2 wq) ∧ Aside (RInv w wq t (some ⟨b, o, none⟩) c w.heap.size R pr i k))
      case atStart => exact ⟨0, by omega, by omega, rfl, W1.out.mono hbs, I1.out⟩
      case round =>
        obtain ⟨k, hk, hg2, rfl, WQ, IQ⟩ := hrel
        clear I1 W1
        by_cases hlk : k < m
        · have hlkz : (k : Int) < (m : Int) := by omega
          obtain ⟨be, oe, rfl, hbe, hje⟩ := HEX.out (by omega)
          have g0 := (WQ.out.cell (p := ⟨be, oe + k * 2, none⟩) hbe).trans (hje k hlk).1
          have g1 := (WQ.out.cell (p := ⟨be, oe + k * 2 + 1, none⟩) hbe).trans (hje k hlk).2
          have hkd := HKD.out k hlk
          have q2 := hkd.2.1
          have q3 := hkd.2.2.1
          clear hkd
          have hcb := fun q => HCL.out k q
          clear hje
          generalize hy : (kids t i).getD k D0 = e at *
          obtain ⟨x, ei⟩ := e
          simp only at g0 g1 q2 q3
          obtain ⟨n2, rfl⟩ := Int.eq_ofNat_of_zero_le (Int.le_of_lt q2)
          simp only [Int.toNat_natCast] at q3
          have Y := Lib.hid hy
          clear hy q2
          have IX := Lib.hid (IQ.out.step ((Below.refl wr.heap.size wr).alloc (Nat.le_refl _) (.cells #[.string x, .int .i64 (n2 : Int)] 58)))
          have hcq := hcb n2
          have rc := IX.out.row.c n2 q3
          have rz := IX.out.row.fz n2
          have rl := IX.out.row.lt
          have rb := IX.out.rb.c0
          have rbl := IX.out.rb.lt
          clear hcb
          generalize hq : cntE (upto t i k) n2 = q at *
          have HQ := Lib.hid hq
          clear hq
          have n2z : (n2 : Int) < (t.length : Int) := by omega
          have n20 : (0 : Int) ≤ (n2 : Int) := Int.natCast_nonneg _
          go_wp2
          go_roundg (m - (k + 1))
          case measure => omega
          case rel =>
            refine ⟨k + 1, by omega, by omega, by go_num, ?_, IX.out.cnt (by omega) (by omega) (by omega) (by omega) Y.out q3 (by rw [HQ.out])⟩
            exact (show Below w.heap.size w2 _ from ((WQ.out.alloc (Nat.le_trans hbs WQ.out.size) _).setCell (by first | omega | (simp; done) | (simp; omega)) _))
        · obtain rfl : k = m := by omega
          have IE := Lib.hid (show RInv w wr t (some ⟨b, o, none⟩) c w.heap.size R pr (i + 1) 0 from ⟨IQ.out.b, IQ.out.tb, IQ.out.rb, by rw [← HUN.out]; exact IQ.out.row⟩)
          go_wp2
          go_roundg (t.length - (i + 1))
          case measure => exact Nat.lt_of_lt_of_le hm9 hg
          case rel => exact ⟨i + 1, by omega, by omega, by go_num, IE.out⟩
    · obtain rfl : i = t.length := by omega
      go_wp2
      go_ret
      refine ⟨_, _, rfl, I.out.b, eg_ref1, fun W hW n hn => ?_⟩
      have Z := I.out.step hW
      exact refCheck1_any a c t n w.heap.size pr R W H1.out (H.out.up Z.b) Z.tb Z.rb (Z.row.ext fun j _ => by rw [upto_all]) hn

end Go.Proofs.YtoeiaffkedkepaaGreatDoor

/- usage at any inode from which all walks end, and quotaCheck. Conditions: as each theorem states; the tree's cells lie in memory as they read. -/
namespace Go.Proofs.YtoeiaffkedkepaaGreatDoor
open Go.RowKit

theorem eg_usage1 : ∀ args w, (callFunc 85 args).run Tryz.prog w = .ok (.enter 85 args) w := enters_of Tryz.func85 (by kernel_rfl) rfl
set_option maxRecDepth 100000 in
set_option maxHeartbeats 1600000 in
theorem usage_any (a : Option Addr) (c : Nat) (t : Tr) (n : Nat) (w : World) (h1 : Ok1 t) (fr : From t n) (h : Nods w w.heap.size a c t) :
    Calls Tryz.prog 71 #[.agg #[.slice a t.length c], .int .i64 (n : Int)] w fun e w' => e = .returned (.int .i64 (usg t (visits t n) : Nat)) ∧ Below w.heap.size w w' := by
  have H := Lib.hid h
  have H1 := Lib.hid h1
  have FR := Lib.hid fr
  have hmk := make_bools t.length h1.le
  clear h h1 fr
  have BB := Lib.hid (show Below w.heap.size w ((((w.alloc (.cells #[.slice a t.length c] 24)).alloc (.cells #[.int .i64 0] 3)).alloc (.cells (madeCells #[.bool false] t.length) 4)).alloc (.cells #[.slice (some ⟨w.heap.size + 1 + 1, 0, none⟩) t.length t.length] 76)) from
    ((((Below.refl _ _).alloc (Nat.le_refl _) _).alloc (by first | omega | (simp; done) | (simp; omega)) _).alloc (by first | omega | (simp; done) | (simp; omega)) _).alloc (by first | omega | (simp; done) | (simp; omega)) _)
  have MM := Lib.hid (show UInv ((((w.alloc (.cells #[.slice a t.length c] 24)).alloc (.cells #[.int .i64 0] 3)).alloc (.cells (madeCells #[.bool false] t.length) 4)).alloc (.cells #[.slice (some ⟨w.heap.size + 1 + 1, 0, none⟩) t.length t.length] 76)) t a c w.heap.size (w.heap.size + 1) (w.heap.size + 1 + 1) (w.heap.size + 1 + 1 + 1) w.heap.size [] from
    ⟨(((row_new ((w.alloc _).alloc _) t.length (.bool false) _).alloc _).at_ (by simp)).ext (fun _ _ => rfl), (One.new (((w.alloc _).alloc _).alloc _) _ _).at_ (by simp), by rw [usg_nil]; exact (((One.new (w.alloc _) (.int .i64 0) _).alloc _).alloc _).at_ (by simp), (((One.new w _ _).alloc _).alloc _).alloc _, H.out.below BB.out⟩)
  go_enter Tryz.func71, Tryz.ntmps71
  go_wp2_with fail
  have VV : Visitor t n 85 #[.pointer (some ⟨w.heap.size + 1 + 1 + 1, 0, none⟩), .pointer (some ⟨w.heap.size + 1, 0, none⟩), .pointer (some ⟨w.heap.size, 0, none⟩)] (fun b => b = w.heap.size + 1 + 1 ∨ b = w.heap.size + 1) (w.heap.size + 4) (fun W L => UInv W t a c w.heap.size (w.heap.size + 1) (w.heap.size + 1 + 1) (w.heap.size + 1 + 1 + 1) w.heap.size L) (fun L p => L ++ [p]) := by
    refine ⟨eg_usage1, fun b hb => by omega, fun W W' s hI hb => hI.below hb (by omega) (by omega) (by omega) (by omega) (by omega), fun W s xs m v hH hI hr hx hv => ?_⟩
    have hnr := H1.out.rch hr FR.out.lt FR.out.used
    exact usage1_any t H1.out a c w.heap.size _ _ _ w.heap.size (by omega) (by omega) (by omega) (by omega) W s xs m v (by omega) hI hnr.1
  have HW := walk_any VV H1.out FR.out (Bt := w.heap.size) (by omega) (fun b hb => by omega) a c _ [] (H.out.below BB.out) (by first | omega | (simp; done) | (simp; omega)) MM.out
  clear VV
  refine HW.mono ?_
  rintro e W2 ⟨rfl, I2, K2⟩
  rw [foldl_snoc, List.nil_append] at I2
  have t0 := I2.tot.c0
  have B2 := Lib.hid (BB.out.trans (K2.below (by first | omega | (simp; done) | (simp; omega)) (fun k hk => by omega) (by simp)))
  clear I2 K2 HW
  go_wp2
  go_ret
  exact ⟨rfl, B2.out⟩

set_option maxRecDepth 100000 in
set_option maxHeartbeats 800000 in
theorem quotaCheck1_any (a : Option Addr) (c : Nat) (t : Tr) (n pt : Nat) (w : World) (hd : Head t) (hp3 : Pass t 3) (h : Nods w w.heap.size a c t) (hp : One w pt (.slice a t.length c)) (hn : n < t.length) :
    Calls Tryz.prog 70 #[.int .i64 (n : Int), .pointer (some ⟨pt, 0, none⟩)] w fun e w' => e = .returned (.int .i64 (codeQ t n)) ∧ Below w.heap.size w w' := by
  have o1 := Pass.ok1 hd (hp3.mono (by omega))
  have nlz : (n : Int) < (t.length : Int) := by omega
  have nz : (0 : Int) ≤ (n : Int) := Int.natCast_nonneg _
  have HF := Lib.hid (show codeQ t n = if (nod t n).q ≠ 0 ∧ (nod t n).q < (usg t (visits t n) : Int) then 14 else 0 from rfl)
  have HU := Lib.hid (fun (hk : (nod t n).k ≠ 0) => usage_any a c t n w o1 (Pass.from_ hd hp3 hn hk).1 h)
  have HK := Lib.hid (show (nod t n).q ≠ 0 → (nod t n).k ≠ 0 from fun hq hk => hq ((o1.fine n).dir (by rw [hk]; decide)).2)
  obtain ⟨b, o, ve, vd, va, vx, rfl, hb, hc, hs⟩ := h.one hn
  have h6 := hc.c6
  have b0 := hp.c0
  have bl := hp.lt
  clear hc hs h hp o1 hp3 hd
  generalize codeQ t n = r at *
  generalize usg t (visits t n) = u at *
  generalize (nod t n).q = q at *
  by_cases hq : q = 0
  · subst hq
    rw [if_neg (by simp)] at HF
    go_enter Tryz.func70, Tryz.ntmps70
    go_wp2
    go_ret
    exact ⟨ret_int HF.out.symm, Below.refl _ _⟩
  · have hq1 : (q != 0) = true := by simpa using hq
    have HU2 := Lib.hid (HU.out (HK.out hq))
    clear HU HK
    by_cases hg : q < (u : Int)
    · rw [if_pos ⟨hq, hg⟩] at HF
      clear hq
      go_enter Tryz.func70, Tryz.ntmps70
      go_wp2_with fail
      refine HU2.out.mono ?_
      rintro e w2 ⟨rfl, b2⟩
      have B2 := Lib.hid b2
      clear b2
      go_wp2
      go_ret
      exact ⟨ret_int HF.out.symm, B2.out⟩
    · rw [if_neg (fun h => hg h.2)] at HF
      have hg2 : decide (q < (u : Int)) = false := by simpa using hg
      clear hq
      go_enter Tryz.func70, Tryz.ntmps70
      go_wp2_with fail
      refine HU2.out.mono ?_
      rintro e w2 ⟨rfl, b2⟩
      have B2 := Lib.hid b2
      clear b2
      go_wp2
      go_ret
      exact ⟨ret_int HF.out.symm, B2.out⟩

theorem eg_quota1 : ∀ args w, (callFunc 70 args).run Tryz.prog w = .ok (.enter 70 args) w := enters_of Tryz.func70 (by kernel_rfl) rfl
set_option maxRecDepth 100000 in
set_option maxHeartbeats 400000 in
theorem quotaCheck_any (a : Option Addr) (c : Nat) (t : Tr) (w : World) (hd : Head t) (hp3 : Pass t 3) (h : Nods w w.heap.size a c t) :
    Calls Tryz.prog 47 #[.agg #[.slice a t.length c]] w (CheckPost t 3 w) := by
  have H := Lib.hid h
  have HP := Lib.hid hp3
  have HD := Lib.hid hd
  clear h hp3 hd
  go_enter Tryz.func47, Tryz.ntmps47
  go_wp2
  go_ret
  refine ⟨_, _, rfl, (Below.refl _ _).alloc (Nat.le_refl _) _, eg_quota1, fun W hW n hn => ?_⟩
  have hb : Below w.heap.size w W := ((Below.refl _ _).alloc (Nat.le_refl _) _).trans (hW.mono (by simp))
  exact quotaCheck1_any a c t n w.heap.size W HD.out HP.out (H.out.up hb) ((One.new w _ _).below hW (by simp)) hn

/-! ## The four checks by number -/
def fnK (k : Nat) : FuncId := match k with
  | 0 => 44
  | 1 => 45
  | 2 => 46
  | _ => 47
theorem check_any (k : Nat) (a : Option Addr) (c : Nat) (t : Tr) (w : World) (hd : Head t) (hp : Pass t k) (hk : k < 4) (h : Nods w w.heap.size a c t) : Calls Tryz.prog (fnK k) #[.agg #[.slice a t.length c]] w (CheckPost t k w) := by
  match k, hk with
  | 0, _ => exact fieldCheck_any a c t w h
  | 1, _ => exact referenceCheck_any a c t w (Pass.ok1 hd hp) h
  | 2, _ => exact pathCheck_any a c t w (Pass.ok2 hd hp) h
  | 3, _ => exact quotaCheck_any a c t w hd hp h
theorem eg_fnK (k : Nat) (hk : k < 4) : ∀ args w, (callFunc (fnK k) args).run Tryz.prog w = .ok (.enter (fnK k) args) w := by
  match k, hk with
  | 0, _ => exact enters_of Tryz.func44 (by kernel_rfl) rfl
  | 1, _ => exact enters_of Tryz.func45 (by kernel_rfl) rfl
  | 2, _ => exact enters_of Tryz.func46 (by kernel_rfl) rfl
  | 3, _ => exact enters_of Tryz.func47 (by kernel_rfl) rfl

end Go.Proofs.YtoeiaffkedkepaaGreatDoor

/- fstree.Validate at every tree: the fault in plain words. Conditions: the tree's cells lie in memory as they read. -/
namespace Go.Proofs.YtoeiaffkedkepaaGreatDoor
open Go.RowKit

/-- What holds between the checks. -/
structure VInv (w wr : World) (t : Tr) (a : Option Addr) (c B1 F : Nat) : Prop where
  b : Below w.heap.size w wr
  tb : One wr w.heap.size (.slice a t.length c)
  fb : FBox wr B1 0 0
  fl : F < wr.heap.size
  fn : ∀ j, j < 4 → wr.cell? ⟨F, j, none⟩ = some (.func (.func (fnK j)) #[] #[])
theorem VInv.step {w wr z : World} {t : Tr} {a : Option Addr} {c B1 F : Nat} (h : VInv w wr t a c B1 F) (hb : Below wr.heap.size wr z) : VInv w z t a c B1 F :=
  ⟨h.b.trans (hb.mono h.b.size), h.tb.below hb h.tb.lt, h.fb.below hb h.fb.lt, Nat.lt_of_lt_of_le h.fl hb.size, fun j hj => (hb.cell (p := ⟨F, j, none⟩) h.fl).trans (h.fn j hj)⟩

theorem fns_new (X : World) (F : Nat) (hF : F = X.heap.size) (t : TypeId) : ∀ j, j < 4 → (X.alloc (.cells #[.func (.func 44) #[] #[], .func (.func 45) #[] #[], .func (.func 46) #[] #[], .func (.func 47) #[] #[]] t)).cell? ⟨F, j, none⟩ = some (.func (.func (fnK j)) #[] #[]) := by
  subst hF
  intro j hj
  match j, hj with
  | 0, _ => simp [fnK]
  | 1, _ => simp [fnK]
  | 2, _ => simp [fnK]
  | 3, _ => simp [fnK]

set_option maxRecDepth 100000 in
set_option maxHeartbeats 1600000 in
theorem validT_head (a : Option Addr) (c : Nat) (t : Tr) (w : World) (hd : Head t) (h : Nods w w.heap.size a c t) :
    Calls Tryz.prog 28 #[.agg #[.slice a t.length c]] w fun e w' => e = .returned (faultV (valT t).1 (valT t).2) ∧ Below w.heap.size w w' := by
  have H := Lib.hid h
  have HD := Lib.hid hd
  have h0 := hd.ne
  have h40 := hd.le
  obtain ⟨b, o, ve, vd, va, vx, rfl, hb, hc, hs⟩ := h.one h0
  have g0 := hc.c0
  rw [hd.root] at g0
  have g0 : w.cell? ⟨b, o, none⟩ = some (.int .i64 1) := by simpa using g0
  have hlz : ((t.length : Int) == 0) = false := by rw [beq_eq_false_iff_ne]; omega
  have hgz : decide ((40 : Int) < (t.length : Int)) = false := by rw [decide_eq_false_iff_not]; omega
  have h0z : (0 : Int) < (t.length : Int) := by omega
  have I0 := Lib.hid (show VInv w (((w.alloc (.cells #[.slice (some ⟨b, o, none⟩) t.length c] 24)).alloc (.cells #[.int .i64 0, .int .i64 0] 28)).alloc (.cells #[.func (.func 44) #[] #[], .func (.func 45) #[] #[], .func (.func 46) #[] #[], .func (.func 47) #[] #[]] 77)) t (some ⟨b, o, none⟩) c (w.heap.size + 1) (w.heap.size + 1 + 1) from
    ⟨(((Below.refl _ _).alloc (Nat.le_refl _) _).alloc (by first | omega | (simp; done) | (simp; omega)) _).alloc (by first | omega | (simp; done) | (simp; omega)) _, ((One.new w _ _).alloc _).alloc _, ((FBox.new (w.alloc _) 0 0 _).alloc _).at_ (by simp), by simp, fns_new ((w.alloc _).alloc _) _ (by simp) _⟩)
  clear hc hs h hd
  go_enter Tryz.func28, Tryz.ntmps28
  go_wp2_with fail
  have o1 : w.heap.size < w.heap.size + 1 := by omega
  have o2 : w.heap.size + 1 < w.heap.size + 1 + 1 := by omega
  generalize w.heap.size + 1 + 1 = F at *
  generalize w.heap.size + 1 = B1 at *
  go_loopg [5, 6, 7, 8, 32] 4 (fun gg _ _ _ _ s32 wr => ∃ k : Nat, k ≤ 4 ∧ 4 - k ≤ gg ∧ s32 = .int .i64 k ∧ Aside (VInv w wr t (some ⟨b, o, none⟩) c B1 F) ∧ Aside (Pass t k))
  case atStart => exact ⟨0, by omega, by omega, rfl, I0.out, (show Pass t 0 from fun j hj => absurd hj (Nat.not_lt_zero _))⟩
  case round =>
    obtain ⟨k, hk, hg, rfl, I, P⟩ := hrel
    clear I0
    obtain ⟨w2, rfl⟩ : ∃ w2 : World, w2 = wr := ⟨_, rfl⟩
    by_cases hlt : k < 4
    · have hltz : (k : Int) < 4 := by omega
      have hm9 : 4 - (k + 1) < 4 - k := Nat.sub_lt_sub_left hlt (Nat.lt_succ_self k)
      have fc := I.out.fn k hlt
      have fl := I.out.fl
      have tc := I.out.tb.c0
      have tl := I.out.tb.lt
      have HC := Lib.hid (check_any k (some ⟨b, o, none⟩) c t w2 HD.out P.out hlt (H.out.up I.out.b))
      have eg := eg_fnK k hlt
      generalize fnK k = g at *
      go_wp2_with (go_at_fn g; refine HC.out.mono ?_; rintro e w3 ⟨g1, caps, rfl, b3, eg1, hcall⟩; have I3 := Lib.hid (I.out.step b3); have tc3 := I3.out.tb.c0; have tl3 := I3.out.tb.lt)
      have HCL := Lib.hid hcall
      clear hcall b3 fc tc HC
      go_loopg [7, 8, 42] t.length (fun gg _ _ s42 wr => ∃ n : Nat, n ≤ t.length ∧ t.length - n ≤ gg ∧ s42 = .int .i64 n ∧ Aside (Below w3.heap.size w3 wr) ∧ Aside (∀ j, j < n → codeK t k j = 0))
      case atStart => exact ⟨0, by omega, by omega, rfl, Below.refl _ _, fun j hj => absurd hj (Nat.not_lt_zero _)⟩
      case round =>
        obtain ⟨n, hn, hg2, rfl, BW, A⟩ := hrel
        by_cases hln : n < t.length
        · have hlnz : (n : Int) < (t.length : Int) := by omega
          have hm8 : t.length - (n + 1) < t.length - n := Nat.sub_lt_sub_left hln (Nat.lt_succ_self n)
          have HN := Lib.hid (HCL.out wr BW.out n hln)
          generalize hq : codeK t k n = q at *
          have HQ := Lib.hid hq
          clear hq
          by_cases hq0 : q = 0
          · subst hq0
            go_wp2_with (go_at_fn g1; refine HN.out.mono ?_; rintro e w4 ⟨rfl, b4⟩)
            have B4 := Lib.hid (BW.out.trans (b4.mono BW.out.size))
            clear b4
            go_roundg (t.length - (n + 1))
            case measure => exact Nat.lt_of_lt_of_le hm8 hg2
            case rel =>
              refine ⟨n + 1, by omega, by omega, by go_num, B4.out, (show Aside _ from fun j hj => ?_)⟩
              by_cases e : j = n
              · subst e; exact HQ.out
              · exact A.out j (by omega)
          · have hq1 : (q != 0) = true := by simpa using hq0
            have hq2 : (q == 0) = false := by simpa using hq0
            have HV := Lib.hid (valT_hit HD.out hlt P.out hln HQ.out hq0 A.out)
            clear hq0
            go_wp2_with (go_at_fn g1; refine HN.out.mono ?_; rintro e w4 ⟨rfl, b4⟩; have I4 := Lib.hid ((I3.out.step BW.out).step b4); have a0 := I4.out.fb.c0; have a1 := I4.out.fb.c1; have f0 := I4.out.fb.f0; have f1 := I4.out.fb.f1; have l4 := I4.out.fb.lt)
            exact bodyPost_ret (v := faultV q n) (by simp [results, Tryz.results28, faultV, go_sem, a0, a1]) rfl ⟨by rw [HV.out], (I4.out.b.setCell (by first | omega | (simp; done) | (simp; omega)) _).setCell (by first | omega | (simp; done) | (simp; omega)) _⟩
        · obtain rfl : n = t.length := by omega
          have P2 := Lib.hid (P.out.succ A.out)
          have I5 := Lib.hid (I3.out.step BW.out)
          go_wp2
          go_roundg (4 - (k + 1))
          case measure => exact Nat.lt_of_lt_of_le hm9 hg
          case rel => exact ⟨k + 1, by omega, by omega, by go_num, I5.out, P2.out⟩
    · obtain rfl : k = 4 := by omega
      have HV := Lib.hid (valT_miss HD.out P.out)
      have a0 := I.out.fb.c0
      have a1 := I.out.fb.c1
      have f0 := I.out.fb.f0
      have f1 := I.out.fb.f1
      have l4 := I.out.fb.lt
      go_wp2
      exact bodyPost_ret (v := faultV 0 0) (by simp [results, Tryz.results28, faultV, go_sem, a0, a1]) rfl ⟨by rw [HV.out], (I.out.b.setCell (by first | omega | (simp; done) | (simp; omega)) _).setCell (by first | omega | (simp; done) | (simp; omega)) _⟩

set_option maxRecDepth 100000 in
set_option maxHeartbeats 800000 in
theorem validT_any (a : Option Addr) (c : Nat) (t : Tr) (w : World) (h : Nods w w.heap.size a c t) :
    Calls Tryz.prog 28 #[.agg #[.slice a t.length c]] w fun e w' => e = .returned (faultV (valT t).1 (valT t).2) ∧ Below w.heap.size w w' := by
  have hll := h.len
  by_cases h0 : t.length = 0
  · have HV := Lib.hid (valT_none h0)
    clear h
    generalize t.length = m at *
    subst h0
    go_enter Tryz.func28, Tryz.ntmps28
    go_wp2
    exact bodyPost_ret (v := faultV 6 0) (by simp [results, Tryz.results28, faultV, go_sem]) rfl ⟨by rw [HV.out], by repeat (first | exact Below.refl _ _ | refine Below.setCell ?_ (by first | omega | (simp; done) | (simp; omega)) _ | refine Below.alloc ?_ (by first | omega | (simp; done) | (simp; omega)) _)⟩
  · have hlz : ((t.length : Int) == 0) = false := by rw [beq_eq_false_iff_ne]; omega
    by_cases h40 : 40 < t.length
    · have HV := Lib.hid (valT_many h40)
      have hgz : (40 : Int) < (t.length : Int) := by omega
      clear h h0
      go_enter Tryz.func28, Tryz.ntmps28
      go_wp2
      exact bodyPost_ret (v := faultV 2 0) (by simp [results, Tryz.results28, faultV, go_sem]) rfl ⟨by rw [HV.out], by repeat (first | exact Below.refl _ _ | refine Below.setCell ?_ (by first | omega | (simp; done) | (simp; omega)) _ | refine Below.alloc ?_ (by first | omega | (simp; done) | (simp; omega)) _)⟩
    · by_cases hr : (nod t 0).k = 1
      · exact validT_head a c t w ⟨by omega, by omega, hr⟩ h
      · have HV := Lib.hid (valT_root h0 h40 hr)
        have hgz : decide ((40 : Int) < (t.length : Int)) = false := by rw [decide_eq_false_iff_not]; omega
        have h0z : (0 : Int) < (t.length : Int) := by omega
        obtain ⟨b, o, ve, vd, va, vx, rfl, hb, hc, hs⟩ := h.one (j := 0) (by omega)
        have g0 := hc.c0
        have g0 : w.cell? ⟨b, o, none⟩ = some (.int .i64 (nod t 0).k) := by simpa using g0
        clear hc hs h h0
        generalize (nod t 0).k = k at *
        have hk1 : (k != 1) = true := by simpa using hr
        clear hr
        go_enter Tryz.func28, Tryz.ntmps28
        go_wp2
        exact bodyPost_ret (v := faultV 8 0) (by simp [results, Tryz.results28, faultV, go_sem]) rfl ⟨by rw [HV.out], by repeat (first | exact Below.refl _ _ | refine Below.setCell ?_ (by first | omega | (simp; done) | (simp; omega)) _ | refine Below.alloc ?_ (by first | omega | (simp; done) | (simp; omega)) _)⟩

end Go.Proofs.YtoeiaffkedkepaaGreatDoor
