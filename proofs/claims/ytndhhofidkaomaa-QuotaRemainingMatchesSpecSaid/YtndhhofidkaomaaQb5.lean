/- Package quota and what its laws compare it with, at this seat's translation.
   Condition: as each theorem states; this text: MfPlain, FsRow, FsSort0, IntsSame, FsWalk, FsField, FsRoutes, FsSample, FsWalk2, FsCells, QtRows. -/
import Derived.Test.YtndhhofidkaomaaQb4
import Derived.Laws.AppendOwn
import Derived.Laws.AppendOwnNone
import Derived.OwnWalk
import Derived.Test.YtndhhofidkaomaaQb3
import Derived.Deep.RegionHeld3
import Derived.Deep.AppendLies
import Derived.Deep.DeepAppendWide
import Derived.Deep.Quiet
import Derived.BigQuiet
import Derived.Lib.SlBytesConst
import Derived.Laws.EntriesVeiled
import Derived.Laws.MakeOwn
import Derived.Test.YtndhhofidkaomaaQb1
import Derived.Maps.AppendAt

set_option linter.all false

/- Plain words on trees: what a valid inode and a valid tree are, one property after the other; what the fault of a tree is whose structure is valid. No program. -/

set_option linter.all false
namespace Go.Proofs.Ytndhhofidkaomaa
open Go.RowKit

/-! ## A valid inode -/
/-- An inode that is valid by itself, with what may be referred to. -/
structure NOk (U : Int → Bool) (x : Nod) : Prop where
  free : x.k = 0 → x.es = [] ∧ x.dl = 0 ∧ x.ac = [] ∧ x.xs = [] ∧ x.o = 0 ∧ x.q = 0 ∧ x.v = 0
  kind : x.k = 0 ∨ x.k = 1 ∨ x.k = 2
  o0 : 0 ≤ x.o
  o7 : x.o ≤ 7
  v0 : 0 ≤ x.v
  v1 : x.v ≤ 1000000
  q0 : 0 ≤ x.q
  q1 : x.q ≤ 100000
  dir : x.k = 1 → x.dl = 0
  file : x.k ≠ 1 → x.es = [] ∧ x.q = 0
  dl : x.dl ≤ 200
  ac : (valF x.ac).1 = 0
  xs : (valA x.xs).1 = 0
  len : x.es.length ≤ 16
  ent : ∀ e ∈ x.es, vname e.n = true ∧ e.i ≠ 0 ∧ U e.i = true
  srt : x.es.Pairwise (fun a b => ltS a.n b.n = true)
theorem codeDs_of (t : Tr) : ∀ (es : List DE) (p : ByteArray), (∀ e ∈ es, vname e.n = true ∧ e.i ≠ 0 ∧ used t e.i = true) → (∀ e ∈ es, ltS p e.n = true) → es.Pairwise (fun a b => ltS a.n b.n = true) → codeDs t p es = 0
  | [], _, _, _, _ => rfl
  | e :: r, p, h1, h2, h3 => by
    rw [List.pairwise_cons] at h3
    obtain ⟨a1, a2, a3⟩ := h1 e (by simp)
    have hc : codeD t p e = 0 := by
      unfold codeD
      rw [if_neg (by rw [a1]; simp), if_neg (by rw [h2 e (by simp)]; simp), if_neg (by rintro (h | h); exact a2 h; rw [a3] at h; cases h)]
    unfold codeDs
    rw [if_pos hc]
    exact codeDs_of t r e.n (fun x hx => h1 x (by simp [hx])) (fun x hx => h3.1 x hx) h3.2
theorem vname_ne {s : ByteArray} (h : vname s = true) : s ≠ ByteArray.empty := by
  intro e
  have := (vname_size h).1
  rw [e] at this
  simp at this
theorem nok_of {t : Tr} {x : Nod} (h : codeN t x = 0) : NOk (used t) x := by
  have hf := fine_of h
  unfold codeN at h
  split at h
  · rename_i hk
    unfold codeF at h
    split at h
    · rename_i h0
      obtain ⟨h1, h2, h3, h4⟩ := h0
      have e1 : x.es = [] := List.eq_nil_of_length_eq_zero (by omega)
      have e2 : x.ac = [] := List.eq_nil_of_length_eq_zero (by omega)
      have e3 : x.xs = [] := List.eq_nil_of_length_eq_zero (by omega)
      have e4 : x.dl = 0 := by omega
      refine ⟨fun _ => ⟨e1, e4, e2, e3, h2, h3, h4⟩, .inl hk, by omega, by omega, by omega, by omega, by omega, by omega, fun _ => e4, fun _ => ⟨e1, h3⟩, by omega, ?_, ?_, by rw [e1]; simp, by rw [e1]; simp, by rw [e1]; simp⟩
      · rw [e2]; rfl
      · rw [e3]; rfl
    · cases h
  · split at h
    · rename_i hk0 hk
      obtain ⟨hc, ha, hx, hE⟩ := or4_zero h
      unfold codeC at hc
      split at hc
      · cases hc
      · rename_i h1
        split at hc
        · cases hc
        · rename_i h2
          split at hc
          · cases hc
          · rename_i h3
            have h1' : (0 ≤ x.o ∧ x.o ≤ 7) ∧ (0 ≤ x.v ∧ x.v ≤ 1000000) ∧ (0 ≤ x.q ∧ x.q ≤ 100000) := by
              refine ⟨?_, ?_, ?_⟩
              · exact Classical.byContradiction fun hh => h1 (.inl hh)
              · exact Classical.byContradiction fun hh => h1 (.inr (.inl hh))
              · exact Classical.byContradiction fun hh => h1 (.inr (.inr hh))
            obtain ⟨⟨a1, a2⟩, ⟨a3, a4⟩, a5, a6⟩ := h1'
            refine ⟨fun h => absurd h hk0, .inr hk, a1, a2, a3, a4, a5, a6, fun hd => ?_, hf.dir, hf.dl, ha, hx, hf.len, hf.ent, hf.srt⟩
            rcases Nat.eq_zero_or_pos x.dl with h9 | h9
            · exact h9
            · exact absurd (.inl ⟨hd, h9⟩) h2
    · cases h
theorem code_of {t : Tr} {x : Nod} (h : NOk (used t) x) : codeN t x = 0 := by
  unfold codeN
  split
  · rename_i hk
    obtain ⟨h1, h2, h3, h4, h5, h6, h7⟩ := h.free hk
    unfold codeF
    rw [if_pos]
    rw [h1, h2, h3, h4]
    exact ⟨rfl, h5, h6, h7⟩
  · rename_i hk
    have hk2 : x.k = 1 ∨ x.k = 2 := by rcases h.kind with h9 | h9 | h9; exact absurd h9 hk; exact .inl h9; exact .inr h9
    rw [if_pos hk2]
    have c1 : codeC x = 0 := by
      unfold codeC
      rw [if_neg, if_neg, if_neg]
      · have := h.dl; omega
      · rintro (⟨h1, h2⟩ | ⟨h1, h2⟩)
        · have := h.dir h1; omega
        · obtain ⟨h3, h4⟩ := h.file h1
          rw [h3, h4] at h2
          simp at h2
      · have h1 := h.o0; have h2 := h.o7; have h3 := h.v0; have h4 := h.v1; have h5 := h.q0; have h6 := h.q1
        rintro (hh | hh | hh)
        · exact hh ⟨h1, h2⟩
        · exact hh ⟨h3, h4⟩
        · exact hh ⟨h5, h6⟩
    have c2 : codeEs t x.es = 0 := by
      unfold codeEs
      have := h.len
      rw [if_neg (by omega)]
      refine codeDs_of t _ _ h.ent (fun e he => ?_) h.srt
      rw [ltS_empty]
      exact decide_eq_true (vname_ne (h.ent e he).1)
    unfold or4
    rw [c1, c2, h.ac, h.xs]
    simp

/-! ## A valid tree -/
/-- A tree whose structure is valid. -/
structure Sv (t : Tr) : Prop where
  ne : 0 < t.length
  le : t.length ≤ 40
  root : (nod t 0).k = 1
  ok : ∀ n, n < t.length → NOk (used t) (nod t n)
  one : ∀ n, n < t.length → (nod t n).k = 1 → n ≠ 0 → refs t n = 1
  some : ∀ n, n < t.length → (nod t n).k = 2 → refs t n ≠ 0
  rch : ∀ n, n < t.length → (nod t n).k ≠ 0 → ∃ xs, Rch t 0 xs n
def Far (t : Tr) : Prop := ∃ xs n, Rch t 0 xs n ∧ tooFar xs = true
def Over (t : Tr) : Prop := ∃ n, n < t.length ∧ (nod t n).q ≠ 0 ∧ (nod t n).q < (usg t (visits t n) : Int)
/-- A valid tree. -/
structure Vd (t : Tr) : Prop extends Sv t where
  near : ¬ Far t
  fits : ¬ Over t
theorem Sv.ok1 {t : Tr} (h : Sv t) : Ok1 t := ⟨h.ne, h.le, h.root, fun n hn => code_of (h.ok n hn)⟩
theorem Sv.lk {t : Tr} (h : Sv t) {n : Nat} (hn : n < t.length) : codeLk t n = 0 := by
  unfold codeLk
  rw [if_neg]
  rintro (⟨h1, h2, h3⟩ | ⟨h1, h2⟩)
  · exact h3 (h.one n hn h1 h2)
  · exact h.some n hn h1 h2
theorem Sv.ok2 {t : Tr} (h : Sv t) : Ok2 t := ⟨h.ok1, fun _ hn => h.lk hn⟩
theorem Sv.node {t : Tr} (h : Sv t) (n : Nat) : NOk (used t) (nod t n) := by
  rcases Nat.lt_or_ge n t.length with hl | hl
  · exact h.ok n hl
  · rw [nod_past hl]
    exact ⟨fun _ => ⟨rfl, rfl, rfl, rfl, rfl, rfl, rfl⟩, .inl rfl, by simp, by simp, by simp, by simp, by simp, by simp, fun h => (by cases h), fun _ => ⟨rfl, rfl⟩, by simp, rfl, rfl, by simp, by simp, by simp⟩
theorem Sv.from_ {t : Tr} (h : Sv t) {n : Nat} (hn : n < t.length) (hk : (nod t n).k ≠ 0) : From t n := by
  obtain ⟨xs, hx⟩ := h.rch n hn hk
  exact h.ok2.from_ hx
theorem Sv.has {t : Tr} (h : Sv t) {n : Nat} : hasL (visits t 0) n = true ↔ ∃ xs, Rch t 0 xs n := by
  rw [hasL_iff]
  constructor
  · rintro ⟨xs, hx⟩; exact ⟨xs, (mem_visits h.ok2.fin).1 hx⟩
  · rintro ⟨xs, hx⟩; exact ⟨xs, (mem_visits h.ok2.fin).2 hx⟩
theorem far_iff {t : Tr} (h : Ok2 t) {n : Nat} : farL (visits t 0) n = true ↔ ∃ xs, Rch t 0 xs n ∧ tooFar xs = true := by
  unfold farL
  rw [List.any_eq_true]
  constructor
  · rintro ⟨⟨xs, m⟩, hx, hm⟩
    simp only [Bool.and_eq_true, decide_eq_true_eq] at hm
    obtain ⟨rfl, hf⟩ := hm
    exact ⟨xs, (mem_visits h.fin).1 hx, hf⟩
  · rintro ⟨xs, hx, hf⟩
    exact ⟨(xs, n), (mem_visits h.fin).2 hx, by simp [hf]⟩
theorem Sv.codeP0 {t : Tr} (h : Sv t) {n : Nat} (hn : n < t.length) : codeP t n = if farL (visits t 0) n = true then 10 else 0 := by
  unfold codeP
  rw [if_neg]
  rintro ⟨h1, h2⟩
  have := h.has.2 (h.rch n hn h1)
  rw [h2] at this; cases this
theorem Sv.head {t : Tr} (h : Sv t) : Head t := ⟨h.ne, h.le, h.root⟩
theorem Sv.pass2 {t : Tr} (h : Sv t) : Pass t 2 := by
  intro j hj n hn
  match j, hj with
  | 0, _ => exact code_of (h.ok n hn)
  | 1, _ => exact h.lk hn
/-- The first inode of a list of inodes that a test finds. -/
theorem first_of (p : Nat → Prop) : ∀ m, (∃ n, n < m ∧ p n) → ∃ n, n < m ∧ p n ∧ ∀ j, j < n → ¬ p j
  | 0, h => by obtain ⟨n, hn, _⟩ := h; omega
  | m + 1, h => by
    by_cases hh : ∃ n, n < m ∧ p n
    · obtain ⟨n, h1, h2, h3⟩ := first_of p m hh
      exact ⟨n, by omega, h2, h3⟩
    · obtain ⟨n, h1, h2⟩ := h
      have : n = m := by
        rcases Nat.lt_or_ge n m with hl | hl
        · exact absurd ⟨n, hl, h2⟩ hh
        · omega
      subst this
      exact ⟨n, by omega, h2, fun j hj hp => hh ⟨j, hj, hp⟩⟩
theorem Sv.val_far {t : Tr} (h : Sv t) (hf : Far t) : (valT t).1 = 10 := by
  obtain ⟨xs, n, hx, hb⟩ := hf
  have hn := (h.ok1.rch hx h.ne (by rw [h.root]; simp)).1
  obtain ⟨i, hi, hp, hA⟩ := first_of (fun n => farL (visits t 0) n = true) t.length ⟨n, hn, (far_iff h.ok2).2 ⟨xs, hx, hb⟩⟩
  have := valT_hit h.head (k := 2) (i := i) (c := 10) (by omega) h.pass2 hi (show codeP t i = 10 by rw [h.codeP0 hi, if_pos hp]) (by decide) (fun j hj => show codeP t j = 0 by rw [h.codeP0 (by omega), if_neg (hA j hj)])
  rw [this]
theorem Sv.pass3 {t : Tr} (h : Sv t) (hf : ¬ Far t) : Pass t 3 :=
  Pass.succ h.pass2 fun n hn => show codeP t n = 0 by
    rw [h.codeP0 hn, if_neg]
    intro hh
    obtain ⟨xs, h1, h2⟩ := (far_iff h.ok2).1 hh
    exact hf ⟨xs, n, h1, h2⟩
theorem codeQ_iff {t : Tr} {n : Nat} : codeQ t n ≠ 0 ↔ (nod t n).q ≠ 0 ∧ (nod t n).q < (usg t (visits t n) : Int) := by
  unfold codeQ
  split
  · rename_i h; simp [h]
  · rename_i h; simp [h]
theorem Sv.val_over {t : Tr} (h : Sv t) (hf : ¬ Far t) (ho : Over t) : (valT t).1 = 14 := by
  obtain ⟨n, hn, hq⟩ := ho
  obtain ⟨i, hi, hp, hA⟩ := first_of (fun n => codeQ t n ≠ 0) t.length ⟨n, hn, codeQ_iff.2 hq⟩
  have h14 : codeQ t i = 14 := by
    have := codeQ_iff.1 hp
    unfold codeQ
    rw [if_pos this]
  have := valT_hit h.head (k := 3) (i := i) (c := 14) (by omega) (h.pass3 hf) hi h14 (by decide) (fun j hj => Classical.byContradiction fun hh => hA j hj hh)
  rw [this]
theorem Sv.val_ok {t : Tr} (h : Sv t) (hf : ¬ Far t) (ho : ¬ Over t) : valT t = (0, 0) :=
  valT_miss h.head (Pass.succ (h.pass3 hf) fun n hn => Classical.byContradiction fun hh => ho ⟨n, hn, codeQ_iff.1 hh⟩)
theorem Vd.val {t : Tr} (h : Vd t) : valT t = (0, 0) := h.toSv.val_ok h.near h.fits
theorem vd_of {t : Tr} (h : (valT t).1 = 0) : Vd t := by
  obtain ⟨hd, p⟩ := valT_ok h
  have hs : Sv t := by
    have o2 := Pass.ok2 hd (p.mono (by omega))
    refine ⟨hd.ne, hd.le, hd.root, fun n hn => nok_of (p 0 (by omega) n hn), fun n hn hk h0 => o2.one hn h0 hk, fun n hn hk h0 => ?_, fun n hn hk => ?_⟩
    · have := o2.refr n hn
      unfold codeLk at this
      rw [if_pos (.inr ⟨hk, h0⟩)] at this
      cases this
    · exact (Pass.from_ hd (p.mono (by omega)) hn hk).2
  refine ⟨hs, ?_, ?_⟩
  · rintro ⟨xs, n, hx, hb⟩
    have := hs.val_far ⟨xs, n, hx, hb⟩
    rw [h] at this; cases this
  · rintro ⟨n, hn, hq⟩
    exact absurd (p 3 (by omega) n hn) (codeQ_iff.2 hq)

end Go.Proofs.Ytndhhofidkaomaa

/- Rows of routes: visits as path, depth and inode; the path of a visit in bytes; an append to such a row. Conditions: as each theorem states. -/

set_option linter.all false
namespace Go.Proofs.Ytndhhofidkaomaa
open Go.RowKit

/-! ## Paths in bytes -/
def flatP (xs : List ByteArray) : List UInt8 := xs.flatMap fun x => 47 :: x.data.toList
theorem flatP_snoc (xs : List ByteArray) (x : ByteArray) : flatP (xs ++ [x]) = flatP xs ++ 47 :: x.data.toList := by
  unfold flatP; rw [List.flatMap_append]; simp
theorem pstr_snoc (xs : List ByteArray) (x : ByteArray) : pstr (xs ++ [x]) = flatP xs ++ 47 :: x.data.toList := by
  unfold pstr; rw [if_neg (by simp)]; exact flatP_snoc xs x
theorem pstr_flat {xs : List ByteArray} (h : xs ≠ []) : pstr xs = flatP xs := by unfold pstr; rw [if_neg h]; rfl
def bP (xs : List ByteArray) : ByteArray := ⟨(pstr xs).toArray⟩
theorem bP_snoc (xs : List ByteArray) (x : ByteArray) : (⟨(flatP xs).toArray⟩ ++ ⟨#[47]⟩ ++ x : ByteArray) = bP (xs ++ [x]) := by
  unfold bP
  rw [pstr_snoc]
  apply ByteArray.ext
  simp
theorem bP_nil : bP [] = ⟨#[47]⟩ := rfl
theorem bP_ne {xs : List ByteArray} (h : xs ≠ []) (hv : ∀ x ∈ xs, vname x = true) : bP xs ≠ ⟨#[47]⟩ := by
  intro e
  have h1 := congrArg (fun b : ByteArray => b.data.toList) e
  simp only [bP] at h1
  rw [pstr_flat h] at h1
  cases xs with
  | nil => exact h rfl
  | cons x r =>
    have hx := (vname_size (hv x (by simp))).1
    have h2 := congrArg List.length h1
    have h3 : x.data.toList.length = x.size := by simp
    simp only [flatP, List.flatMap_cons, List.length_append, List.length_cons, List.length_nil] at h2
    simp at h2
    omega
theorem bP_size {xs : List ByteArray} (hv : ∀ x ∈ xs, vname x = true) : (bP xs).size ≤ 13 * xs.length + 1 := by
  have h1 := flat_len xs hv
  have e : (bP xs).size = (pstr xs).length := by unfold bP; simp [ByteArray.size]
  rw [e]
  unfold pstr
  split
  · simp
  · omega
theorem flatP_size {xs : List ByteArray} (hv : ∀ x ∈ xs, vname x = true) : (flatP xs).length ≤ 13 * xs.length := flat_len xs hv

/-! ## Visits as cells -/
abbrev V0 : Vis := ([], 0)
def cellsV (p : Vis) : List Value := [.string (bP p.1), .int .i64 (p.1.length : Nat), .int .i64 (p.2 : Nat)]
def flatV (L : List Vis) : List Value := L.flatMap cellsV
theorem flatV_cons (p : Vis) (L : List Vis) : flatV (p :: L) = .string (bP p.1) :: .int .i64 (p.1.length : Nat) :: .int .i64 (p.2 : Nat) :: flatV L := by
  unfold flatV cellsV; rw [List.flatMap_cons]; rfl
theorem flatV_append (L M : List Vis) : flatV (L ++ M) = flatV L ++ flatV M := by unfold flatV; rw [List.flatMap_append]
theorem flatV_len : ∀ L : List Vis, (flatV L).length = L.length * 3
  | [] => rfl
  | p :: L => by rw [flatV_cons]; simp only [List.length_cons]; rw [flatV_len L]; omega
theorem flatV_one : ∀ (L : List Vis), ∀ u ∈ flatV L, u.oneCell' = true
  | [], u, h => by simp [flatV] at h
  | p :: L, u, h => by
    rw [flatV_cons] at h
    rcases List.mem_cons.1 h with rfl | h
    · rfl
    · rcases List.mem_cons.1 h with rfl | h
      · rfl
      · rcases List.mem_cons.1 h with rfl | h
        · rfl
        · exact flatV_one L u h
theorem flatV_get : ∀ (L : List Vis) (j : Nat), j < L.length →
    (flatV L)[j * 3]? = some (.string (bP (L.getD j V0).1)) ∧ (flatV L)[j * 3 + 1]? = some (.int .i64 ((L.getD j V0).1.length : Nat)) ∧ (flatV L)[j * 3 + 2]? = some (.int .i64 ((L.getD j V0).2 : Nat))
  | [], j, h => absurd h (by simp)
  | p :: L, 0, _ => by rw [flatV_cons]; simp
  | p :: L, j + 1, h => by
    have ih := flatV_get L j (by simpa using h)
    have e1 : (j + 1) * 3 = j * 3 + 1 + 1 + 1 := by omega
    rw [flatV_cons, e1]
    simpa using ih
theorem visD {L : List Vis} {k : Nat} (h : k < L.length) : L.getD k V0 = L[k] := by
  rw [List.getD_eq_getElem?_getD, List.getElem?_eq_getElem h]; rfl
/-- The slice value v reads as these visits, all of it below block B. -/
def Vs (w : World) (B : Nat) (v : Value) (L : List Vis) : Prop :=
  ∃ b c, v = .slice (some ⟨b, 0, none⟩) L.length c ∧ L.length ≤ c ∧ 0 < L.length ∧ b < B ∧ ∀ j, j < L.length →
      w.cell? ⟨b, j * 3, none⟩ = some (.string (bP (L.getD j V0).1)) ∧ w.cell? ⟨b, j * 3 + 1, none⟩ = some (.int .i64 ((L.getD j V0).1.length : Nat)) ∧ w.cell? ⟨b, j * 3 + 2, none⟩ = some (.int .i64 ((L.getD j V0).2 : Nat))
theorem Vs.below {w w' : World} {B : Nat} {v : Value} {L : List Vis} (h : Vs w B v L) (hb : Below B w w') : Vs w' B v L := by
  obtain ⟨b, c, hv, hc, h0, hB, hj⟩ := h
  refine ⟨b, c, hv, hc, h0, hB, fun j hl => ?_⟩
  rw [hb.cell (p := ⟨b, _, none⟩) hB, hb.cell (p := ⟨b, _, none⟩) hB, hb.cell (p := ⟨b, _, none⟩) hB]
  exact hj j hl
theorem Vs.more {w : World} {B B' : Nat} {v : Value} {L : List Vis} (h : Vs w B v L) (hB : B ≤ B') : Vs w B' v L := by
  obtain ⟨b, c, hv, hc, h0, hb, hj⟩ := h
  exact ⟨b, c, hv, hc, h0, by omega, hj⟩
theorem Vs.up {w w' : World} {v : Value} {L : List Vis} (h : Vs w w.heap.size v L) (hb : Below w.heap.size w w') : Vs w' w'.heap.size v L := (h.below hb).more hb.size
theorem vs_own {w : World} {base n : Nat} {v : Value} {L : List Vis} (h : w.ownsRow base 58 3 v n (flatV L)) (h0 : 0 < L.length) : Vs w w.heap.size v L := by
  have hn : n = L.length := by have := h.1; rw [flatV_len] at this; omega
  subst hn
  rcases h.2 with ⟨hv, hz⟩ | ⟨g, cap, cur, hv, _, hg, hnc, _, _, _⟩
  · omega
  · have hlt : g < w.heap.size := (Array.getElem?_eq_some_iff.1 hg).1
    rw [hv] at h
    refine ⟨g, cap, hv, hnc, h0, hlt, fun j hj => ?_⟩
    obtain ⟨h1, h2, h3⟩ := flatV_get L j hj
    rw [← h.cellAt (j * 3) (by omega)] at h1
    rw [← h.cellAt (j * 3 + 1) (by omega)] at h2
    rw [← h.cellAt (j * 3 + 2) (by omega)] at h3
    exact ⟨h1, h2, h3⟩
theorem vs_new (w : World) (p : Vis) : (w.alloc (.cells #[.string (bP p.1), .int .i64 (p.1.length : Nat), .int .i64 (p.2 : Nat)] 58)).ownsRow w.heap.size 58 3 (.slice (some ⟨w.heap.size, 0, none⟩) 1 1) 1 (flatV [p]) :=
  ⟨rfl, .inr ⟨_, 1, _, rfl, Nat.le_refl _, heap_alloc_new w _, by omega, by simp [maxLen], rfl, rfl⟩⟩

theorem rt_info : (Try.prog.info? 58).map (fun i => (i.zero, i.size, i.bytes)) = some (some (.agg #[.string ByteArray.empty, .int .i64 0, .int .i64 0]), 3, 32) := by kernel_rfl

set_option maxRecDepth 100000 in
/-- append(row, x): row a row of the call's own, x one route in a block of its own; where the new row lies. -/
theorem wpList_append_rt {w : World} {ops : Array Oper} {rest : List Oper} {o : Oper} {a : Act} {Q : Exit → Act → World → Prop} (hgd : o.guard = none) (s x : Operand)
    (ho : o.op = .call { callee := .builtin .append, args := #[s, x], argTypes := #[55, 55] })
    (base : Nat) (v : Value) (n : Nat) (L : List Vis) (hs : a.eval s = v) (hown : w.ownsRow base 58 3 v n (flatV L))
    (q : Nat) (p : Vis) (hx : a.eval x = .slice (some ⟨q, 0, none⟩) 1 1)
    (h0 : w.cell? ⟨q, 0, none⟩ = some (.string (bP p.1))) (h1 : w.cell? ⟨q, 1, none⟩ = some (.int .i64 (p.1.length : Nat))) (h2 : w.cell? ⟨q, 2, none⟩ = some (.int .i64 (p.2 : Nat)))
    (hn : n ≤ 100000) (hbase : base ≤ w.heap.size)
    (h : ∀ v' w', w'.ownsRow base 58 3 v' (n + 1) (flatV (L ++ [p])) → w.grownBy w' v.ownBlock → (v'.ownBlock = v.ownBlock ∨ v'.ownBlock = some w.heap.size) → wpList Try.prog ops Q rest (a.put o.dst v') w') : wpList Try.prog ops Q (o :: rest) a w := by
  obtain ⟨i0, hi, hz0, hz1, hz2⟩ := info_parts rt_info
  refine wpList_plain hgd fun K hK2 => ?_
  obtain ⟨v', w', hrun, g1, g2, _, g3⟩ := run_append_own_at (P := Try.prog) w base 55 o.type 58 i0 _ 3 32 Try.underlying55 hi hz0 hz1 hz2 rfl (by omega) v n (flatV L) hown ⟨q, 0, none⟩ 1 1 (flatV [p]) rfl (by
      intro j u hu
      have hjl : j < 3 := by
        have := (List.getElem?_eq_some_iff.1 hu).1
        simpa [flatV_len] using this
      have hadd : (⟨q, 0, none⟩ : Addr).add j = ⟨q, j, none⟩ := by unfold Addr.add; split <;> simp_all
      rw [hadd]
      match j, hjl with
      | 0, _ => simp [flatV, cellsV] at hu; subst hu; exact h0
      | 1, _ => simp [flatV, cellsV] at hu; subst hu; exact h1
      | 2, _ => simp [flatV, cellsV] at hu; subst hu; exact h2) (flatV_one _) (by unfold maxLen; omega) (by omega) hbase
  unfold Oper.wp
  simp [execOp, ho, resolve, invoke, builtin, hs, hx, hrun, Result.andThen]
  exact hK2 _ _ (h v' w' (by rw [flatV_append]; exact g1) g2 g3)

end Go.Proofs.Ytndhhofidkaomaa

/- Slices of strings in memory, appends of several strings to an own row, ascending lists with given members. Conditions: as each theorem states. -/

set_option linter.all false
namespace Go.Proofs.Ytndhhofidkaomaa
open Go.RowKit

theorem own_le {w : World} {base base' n size : Nat} {e : TypeId} {v : Value} {xs : List Value} (h : w.ownsRow base e size v n xs) (hb : base' ≤ base) : w.ownsRow base' e size v n xs := by
  refine ⟨h.1, ?_⟩
  rcases h.2 with h0 | ⟨g, cap, cur, h1, h2, h3⟩
  · exact .inl h0
  · exact .inr ⟨g, cap, cur, h1, by omega, h3⟩
theorem own_empty (w : World) (base n : Nat) (t : TypeId) (hb : base ≤ w.heap.size) (hn : n = w.heap.size) : (w.alloc (.cells #[] t)).ownsRow base t 1 (.slice (some ⟨n, 0, none⟩) 0 0) 0 [] := by
  subst hn
  exact ⟨rfl, .inr ⟨_, 0, #[], rfl, hb, heap_alloc_new w _, Nat.le_refl _, Nat.zero_le _, rfl, rfl⟩⟩
/-- An append of a list of strings to an owned row, as a step of a region that draws its order. -/
theorem step_append_strs {w : World} {ops : Array Oper} {o : Oper} {a : Act} {K : Act → World → Prop} {Q : Exit → Act → World → Prop} {E : Prop} (hgd : o.guard = none) (s x : Operand)
    (ho : o.op = .call { callee := .builtin .append, args := #[s, x], argTypes := #[74, 74] })
    (base : Nat) (v : Value) (n : Nat) (xs : List Value) (hs : a.eval s = v) (hown : w.ownsRow base 9 1 v n xs)
    (B : Nat) (u : Value) (ys : List ByteArray) (hx : a.eval x = u) (hA : Strs w B u ys)
    (hn : n + ys.length ≤ 13194139532928) (hbase : base ≤ w.heap.size)
    (hK : ∀ v' w', w'.ownsRow base 9 1 v' (n + ys.length) (xs ++ ys.map Value.string) → w.grownBy w' v.ownBlock → K (a.put o.dst v') w') :
    if Region.wanted o (yielded ops a.tmps) = true then Oper.wp Try.prog o a w K Q else E := by
  have hw : Region.wanted o (yielded ops a.tmps) = true := by simp [Region.wanted, hgd]
  rw [if_pos hw]
  obtain ⟨i, hi, hz0, hz1, hz2⟩ := info_parts str_info
  obtain ⟨ad, c, rfl, hc, hl, hf, hcell⟩ := hA
  have h1 : ∀ y ∈ ys.map Value.string, y.oneCell' = true := fun z hz => by
    obtain ⟨x, _, rfl⟩ := List.mem_map.1 hz; rfl
  have key : ∀ g : Addr, ad = some g → (∀ j u, (ys.map Value.string)[j]? = some u → w.cell? (g.add j) = some u) → Oper.wp Try.prog o a w K Q := fun g hg hcl => by
    subst hg
    obtain ⟨v', w', hrun, r1, r2, _⟩ := run_append_own_wide (P := Try.prog) w base 74 o.type 9 i _ 1 16 Try.underlying74 hi hz0 hz1 hz2 rfl (by decide) v n xs hown g ys.length c (ys.map Value.string) (by simp) hcl h1 (by unfold maxLen; omega) (by omega) hbase
    unfold Oper.wp
    simp [execOp, ho, resolve, invoke, builtin, hs, hx, hrun, Result.andThen]
    exact hK v' w' r1 r2
  by_cases h0 : ys.length = 0
  · have he : ys = [] := List.eq_nil_of_length_eq_zero h0
    subst he
    cases ad with
    | none =>
      have hrun : (Builtin.append_ #[74, 74] o.type #[v, .slice none 0 c]).run Try.prog w = .ok v w := by
        rcases hown.2 with ⟨rfl, _⟩ | ⟨g, cap, cur, rfl, _, _, hnc, _⟩
        · simp [Builtin.append_, run_underlying Try.underlying74, sizeOf, typeInfo, hi, Builtin.lenOf, Builtin.firstCells]
        · simp [Builtin.append_, run_underlying Try.underlying74, sizeOf, typeInfo, hi, Builtin.lenOf, Builtin.firstCells, hnc, storeCells]
      unfold Oper.wp
      simp [execOp, ho, resolve, invoke, builtin, hs, hx, hrun, Result.andThen]
      exact hK v w (by simpa using hown) (World.grownBy.refl _ _)
    | some g => exact key g rfl (by intro j u hu; simp at hu)
  · obtain ⟨b, of, rfl, hB, hj⟩ := hcell (by omega)
    refine key _ rfl fun j u hu => ?_
    have hjl : j < ys.length := by
      have := (List.getElem?_eq_some_iff.1 hu).1
      simpa using this
    have e : u = .string (ys.getD j ByteArray.empty) := by
      rw [List.getElem?_map, List.getElem?_eq_getElem hjl] at hu
      rw [strD hjl]
      exact (Option.some.inj hu).symm
    have hadd : (⟨b, of, none⟩ : Addr).add j = ⟨b, of + j, none⟩ := by unfold Addr.add; split <;> simp_all
    rw [e, hadd]
    exact hj j hjl
theorem Strs.empty (w : World) (B : Nat) (a : Option Addr) (c : Nat) : Strs w B (.slice a 0 c) [] :=
  ⟨a, c, rfl, by simp, by simp, by simp, fun h => absurd h (by simp)⟩
theorem Strs.cut {w : World} {B : Nat} {a : Option Addr} {n c : Nat} {xs : List ByteArray} (h : Strs w B (.slice a n c) xs) {k : Nat} (hk : k ≤ n) : Strs w B (.slice a k c) (xs.take k) := by
  obtain ⟨a', c', hv, hc, hl, hf, hx⟩ := h
  injection hv with h1 hn h2
  subst h1 h2 hn
  have hlen : (xs.take k).length = k := by simp; omega
  refine ⟨a, c, by rw [hlen], by omega, by omega, fun e he => hf e (List.mem_of_mem_take he), fun h0 => ?_⟩
  obtain ⟨b, o, ha, hB, hj⟩ := hx (by omega)
  refine ⟨b, o, ha, hB, fun j h => ?_⟩
  have e : (xs.take k).getD j ByteArray.empty = xs.getD j ByteArray.empty := by
    rw [List.getD_eq_getElem?_getD, List.getD_eq_getElem?_getD, List.getElem?_take_of_lt (by omega)]
  rw [e]; exact hj j (by omega)
theorem Strs.from_ {w : World} {B b o n c : Nat} {xs : List ByteArray} (h : Strs w B (.slice (some ⟨b, o, none⟩) n c) xs) {k : Nat} (hk : k ≤ n) : Strs w B (.slice (some ⟨b, o + k, none⟩) (n - k) (c - k)) (xs.drop k) := by
  obtain ⟨a', c', hv, hc, hl, hf, hx⟩ := h
  injection hv with h1 hn h2
  subst h1 h2 hn
  have hlen : (xs.drop k).length = xs.length - k := by simp
  refine ⟨_, c - k, by rw [hlen], by omega, by omega, fun e he => hf e (List.mem_of_mem_drop he), fun h0 => ?_⟩
  obtain ⟨b', o', ha, hB, hj⟩ := hx (by omega)
  injection ha with ha
  injection ha with ha1 ha2
  subst ha1 ha2
  refine ⟨b, _, rfl, hB, fun j h => ?_⟩
  have e : (xs.drop k).getD j ByteArray.empty = xs.getD (k + j) ByteArray.empty := by
    rw [List.getD_eq_getElem?_getD, List.getD_eq_getElem?_getD, List.getElem?_drop]
  rw [e]
  have := hj (k + j) (by omega)
  rw [show o + k + j = o + (k + j) by omega]; exact this

theorem ins_new {l : List ByteArray} (hl : Asc l) {s : ByteArray} {k : Nat} (hk : k ≤ l.length) (h1 : ∀ j, j < k → ltS (l.getD j ByteArray.empty) s = true) (h2 : k < l.length → ltS (l.getD k ByteArray.empty) s = false ∧ l.getD k ByteArray.empty ≠ s) : insU l s = l.take k ++ [s] ++ l.drop k := by
  have hp := posU_of hl hk h1 (fun h => (h2 h).1)
  unfold insU
  rw [hp, if_neg]
  rw [hasU_iff]
  intro hm
  obtain ⟨j, hj, e⟩ := List.mem_iff_getElem.1 hm
  rw [← strD hj] at e
  by_cases hjk : j < k
  · exact ltS_ne (h1 j hjk) e
  · obtain ⟨q1, q2⟩ := h2 (by omega)
    by_cases e2 : j = k
    · subst e2; exact q2 e
    · have h3 := List.pairwise_iff_getElem.1 hl k j (by omega) hj (by omega)
      rw [← strD, ← strD, e, q1] at h3
      cases h3
theorem Strs.drew {w : World} {B : Nat} {v : Value} {xs : List ByteArray} (h : Strs w B v xs) : Strs w.drew B v xs := h
theorem strs_cell {w : World} {B g : Nat} {y : ByteArray} (hc : w.cell? ⟨g, 0, none⟩ = some (.string y)) (hg : g < B) (hy : y.size ≤ maxLen) : Strs w B (.slice (some ⟨g, 0, none⟩) 1 1) [y] := by
  refine ⟨_, _, rfl, by simp, by simp, by simpa using hy, fun _ => ⟨_, _, rfl, hg, ?_⟩⟩
  intro j hj
  match j, hj with
  | 0, _ => simpa using hc
theorem cell_grown {w w' : World} {row : Option Nat} (hg : w.grownBy w' row) {n : Nat} {u : Value} (hc : w.cell? ⟨n, 0, none⟩ = some u) (hn : some n ≠ row) : w'.cell? ⟨n, 0, none⟩ = some u := by
  have hlt : n < w.heap.size := by
    rcases Nat.lt_or_ge n w.heap.size with hlt | hge
    · exact hlt
    · unfold World.cell? at hc; rw [Array.getElem?_eq_none hge] at hc; simp at hc
  exact (World.cell?_of_block (a := ⟨n, 0, none⟩) (hg.block n hlt hn)).trans hc
theorem Strs.spot {w : World} {B n c : Nat} {a : Option Addr} {xs : List ByteArray} (h : Strs w B (.slice a n c) xs) (h0 : 0 < xs.length) : ∃ b o, a = some ⟨b, o, none⟩ ∧ b < B ∧ ∀ j, j < xs.length → w.cell? ⟨b, o + j, none⟩ = some (.string (xs.getD j ByteArray.empty)) := by
  obtain ⟨a', c', hv, _, _, _, hx⟩ := h
  injection hv with h1 _ h2
  subst h1
  exact hx h0
theorem Strs.form {w : World} {B n : Nat} {v : Value} {xs : List ByteArray} (h : Strs w B v xs) (hn : xs.length = n) : ∃ a c, v = .slice a n c ∧ n ≤ c := by
  subst hn
  obtain ⟨a, c, hv, hc, _⟩ := h
  exact ⟨a, c, hv, hc⟩
theorem Strs.none_ (w : World) (B : Nat) : Strs w B (.slice none 0 0) [] :=
  ⟨none, 0, rfl, by simp, by simp, by simp, fun h => absurd h (by simp)⟩
theorem cell_al {w : World} {b o : Nat} {v : Value} (h : w.cell? ⟨b, o, none⟩ = some v) (x : Obj) : (w.alloc x).cell? ⟨b, o, none⟩ = some v :=
  (((Below.refl w.heap.size w).alloc (Nat.le_refl _) x).cell (p := ⟨b, o, none⟩) (cell_lt h)).trans h
/-- What holds at the head of the outer loop. -/
structure SNv (w wr : World) (acc : List ByteArray) (v : Value) : Prop where
  B : Below w.heap.size w wr
  own : wr.ownsRow w.heap.size 9 1 v acc.length (acc.map Value.string)
theorem SNv.drewN {w wr : World} {acc : List ByteArray} {v : Value} (h : SNv w wr acc v) (q : Nat) : SNv w (wr.drewN q) acc v := ⟨below_drewN h.B q, h.own⟩
/-- An ascending list with these members. -/
def AscOf (P L : List ByteArray) : Prop := Asc P ∧ ∀ x, x ∈ P ↔ x ∈ L
theorem ascOf_ins {acc L : List ByteArray} {s : ByteArray} {k : Nat} (h : Asc acc) (hm : ∀ x, x ∈ acc ↔ x ∈ L) (hk : k ≤ acc.length) (h1 : ∀ j, j < k → ltS (acc.getD j ByteArray.empty) s = true) (h2 : k < acc.length → ltS s (acc.getD k ByteArray.empty) = true) : Asc (acc.take k ++ [s] ++ acc.drop k) ∧ ∀ x, x ∈ acc.take k ++ [s] ++ acc.drop k ↔ x ∈ L ++ [s] := by
  have hlt : ∀ a ∈ acc.take k, ltS a s = true := by
    intro a ha
    obtain ⟨j, hj, rfl⟩ := List.mem_iff_getElem.1 ha
    rw [List.length_take] at hj
    rw [List.getElem_take, ← strD (by omega)]
    exact h1 j (by omega)
  have hgt : ∀ a ∈ acc.drop k, ltS s a = true := by
    intro a ha
    obtain ⟨j, hj, rfl⟩ := List.mem_iff_getElem.1 ha
    rw [List.length_drop] at hj
    rw [List.getElem_drop]
    have h3 := h2 (by omega)
    by_cases hj0 : j = 0
    · subst hj0
      rw [← strD (by omega)]; exact h3
    · have h4 := List.pairwise_iff_getElem.1 h k (k + j) (by omega) (by omega) (by omega)
      rw [strD (by omega)] at h3
      exact ltS_trans h3 h4
  constructor
  · unfold Asc at h ⊢
    rw [List.pairwise_append, List.pairwise_append]
    refine ⟨⟨h.sublist (List.take_sublist _ _), List.pairwise_singleton _ _, fun a ha c hc => ?_⟩, h.sublist (List.drop_sublist _ _), fun a ha c hc => ?_⟩
    · obtain rfl : c = s := by simpa using hc
      exact hlt a ha
    · rcases List.mem_append.1 ha with ha | ha
      · exact ltS_trans (hlt a ha) (hgt c hc)
      · obtain rfl : a = s := by simpa using ha
        exact hgt c hc
  · intro x
    rw [List.mem_append, List.mem_append, List.mem_append, ← hm x]
    conv => rhs; lhs; rw [← List.take_append_drop k acc]
    rw [List.mem_append]
    constructor
    · rintro ((h | h) | h)
      · exact .inl (.inl h)
      · exact .inr h
      · exact .inl (.inr h)
    · rintro ((h | h) | h)
      · exact .inl (.inl h)
      · exact .inr h
      · exact .inl (.inr h)
/-- What a function leaves that returns these strings in ascending order. -/
def SortPost (L : List ByteArray) (w : World) (e : Ending) (w' : World) : Prop := ∃ v P, e = .returned v ∧ AscOf P L ∧ Strs w' w'.heap.size v P ∧ (∀ q, v.ownBlock = some q → w.heap.size ≤ q) ∧ Below w.heap.size w w'

end Go.Proofs.Ytndhhofidkaomaa

/- farshelfequal.Ints at two slices of the same ints. Conditions: as the theorem states. -/

set_option linter.all false
namespace Go.Proofs.Ytndhhofidkaomaa
open Go.RowKit

theorem drewN_oneQ (w : World) (b c : Nat) : (w.drewN b).drewN c = w.drewN (b + c) := by rw [World.drewN_drewN]
theorem drewN_moreQ (w : World) (a b c : Nat) : (w.drewN (a + b)).drewN c = w.drewN (a + (b + c)) := by
  rw [World.drewN_drewN, Nat.add_assoc]

theorem One.drewNQ {w : World} {n : Nat} {v : Value} (h : One w n v) (k : Nat) : One (w.drewN k) n v := ⟨h.lt, h.c0, h.f0⟩
set_option maxRecDepth 100000 in
set_option maxHeartbeats 1600000 in
/-- Two slices of the same ints. -/
theorem intsSame_any (b1 o1 c1 b2 o2 c2 n : Nat) (f : Nat → Int) (w : World) (hn : n ≤ 1000) (h1 : ∀ j, j < n → w.cell? ⟨b1, o1 + j, none⟩ = some (.int .i64 (f j))) (h2 : ∀ j, j < n → w.cell? ⟨b2, o2 + j, none⟩ = some (.int .i64 (f j))) :
    Calls Try.prog 14 #[.slice (some ⟨b1, o1, none⟩) n c1, .slice (some ⟨b2, o2, none⟩) n c2] w fun e w' => e = .returned (.bool true) ∧ ∃ q, w' = w.drewN q := by
  have HX1 := Lib.hid h1
  have HX2 := Lib.hid h2
  clear h1 h2
  go_enter Try.func14, Try.ntmps14
  go_wp2
  go_loopg [5] n (fun gg s5 wr => ∃ k q : Nat, k ≤ n ∧ n - k ≤ gg ∧ s5 = .int .i64 k ∧ wr = w.drewN q)
  case atStart => exact ⟨0, 0, by omega, by omega, rfl, rfl⟩
  case round =>
    obtain ⟨k, q, hk, hg, rfl, rfl⟩ := hrel
    by_cases hlt : k < n
    · have hltz : (k : Int) < (n : Int) := by omega
      have hi0 : (0 : Int) ≤ (k : Int) := Int.natCast_nonneg _
      have g0 := HX1.out k hlt
      have d0 := HX2.out k hlt
      generalize f k = y at *
      go_wp2_with fail
      go_quiet (fail)
      go_wp2_with fail
      go_roundg (n - (k + 1))
      case measure => omega
      case rel => exact ⟨k + 1, _, by omega, by omega, by go_num, rfl⟩
    · have hltz : ¬ (k : Int) < (n : Int) := by omega
      go_wp2_with fail
      go_ret
      exact ⟨rfl, _, rfl⟩

end Go.Proofs.Ytndhhofidkaomaa

/- walk of package fstree, at any function that it visits with: every place below the start is visited, in depth-first order. Conditions: all walks from the start end; the visit leaves all but its own blocks alone. -/

set_option linter.all false
namespace Go.Proofs.Ytndhhofidkaomaa
open Go.RowKit

/-- What is asked of the visit. -/
structure Visitor {σ : Type} (t : Tr) (s0 : Nat) (g : FuncId) (caps : Array Value) (S : Nat → Prop) (H0 : Nat) (Inv : World → σ → Prop) (step : σ → Vis → σ) : Prop where
  eg : ∀ args w, (callFunc g args).run Try.prog w = .ok (.enter g args) w
  low : ∀ b, S b → b < H0
  keep : ∀ W W' s, Inv W s → Below H0 W W' → Inv W' s
  call : ∀ W s xs n v, H0 ≤ W.heap.size → Inv W s → Rch t s0 xs n → Strs W W.heap.size v xs → (∀ q, v.ownBlock = some q → H0 ≤ q) → Calls Try.prog g (#[v, .int .i64 (n : Int)] ++ caps) W fun e W' => e = .returned (.tuple #[]) ∧ Inv W' (step s (xs, n)) ∧ Kept S none W W'

/-- The three variables that follow captures, and the tree. -/
structure Env (W : World) (g : FuncId) (caps : Array Value) (pt pv pf Bt : Nat) (a : Option Addr) (c : Nat) (t : Tr) : Prop where
  tb : One W pt (.slice a t.length c)
  vb : One W pv (.func (.func g) #[] caps)
  fb : One W pf (.func (.func 59) #[] #[.pointer (some ⟨pv, 0, none⟩), .pointer (some ⟨pt, 0, none⟩), .pointer (some ⟨pf, 0, none⟩)])
  nd : Nods W Bt a c t
/-- Where these lie. -/
structure Lay (S : Nat → Prop) (H0 pt pv pf Bt base : Nat) : Prop where
  bt : Bt ≤ H0
  sb : ∀ b, S b → Bt ≤ b
  sh : ∀ b, S b → b < H0
  t0 : H0 ≤ pt
  v0 : H0 ≤ pv
  f0 : H0 ≤ pf
  t1 : pt < base
  v1 : pv < base
  f1 : pf < base
theorem Env.kept {W W' : World} {g : FuncId} {caps : Array Value} {pt pv pf Bt : Nat} {a : Option Addr} {c : Nat} {t : Tr} {S : Nat → Prop} {row : Option Nat} {H0 base : Nat} (E : Env W g caps pt pv pf Bt a c t) (k : Kept S row W W') (L : Lay S H0 pt pv pf Bt base) (hr : ∀ q, row = some q → base ≤ q) : Env W' g caps pt pv pf Bt a c t := by
  have nS : ∀ p, H0 ≤ p → ¬ S p := fun p hp hs => by have := L.sh p hs; omega
  have nR : ∀ p, p < base → some p ≠ row := fun p hp e => by have := hr p e.symm; omega
  have hB : Bt ≤ W.heap.size := by have := E.tb.lt; have := L.t0; have := L.bt; omega
  exact ⟨E.tb.kept k (nS _ L.t0) (nR _ L.t1), E.vb.kept k (nS _ L.v0) (nR _ L.v1), E.fb.kept k (nS _ L.f0) (nR _ L.f1),
    E.nd.below (k.below hB L.sb (fun q hq => by have := hr q hq; have := L.t0; have := L.t1; have := L.bt; omega))⟩

/-- What a walk of a place below has done. -/
structure Went {σ : Type} (S : Nat → Prop) (Inv : World → σ → Prop) (base : Nat) (v : Value) (xs : List ByteArray) (s' : σ) (W W' : World) : Prop where
  inv : Inv W' s'
  kept : Kept S v.ownBlock W W'
  own : W'.ownsRow base 9 1 v xs.length (xs.map Value.string)

def fin_ {σ : Type} (step : σ → Vis → σ) (t : Tr) (xs : List ByteArray) (n : Nat) (s : σ) : σ := (sub t xs n).foldl step s
/-- The state ahead of entry number k. -/
def mid_ {σ : Type} (step : σ → Vis → σ) (t : Tr) (xs : List ByteArray) (es : List DE) (s : σ) (k : Nat) : σ := ((es.take k).flatMap fun e => sub t (xs ++ [e.n]) e.i.toNat).foldl step s
theorem mid_zero {σ : Type} (step : σ → Vis → σ) (t : Tr) (xs : List ByteArray) (es : List DE) (s : σ) : mid_ step t xs es s 0 = s := by unfold mid_; simp
theorem mid_succ {σ : Type} (step : σ → Vis → σ) (t : Tr) (xs : List ByteArray) (es : List DE) (s : σ) {k : Nat} (h : k < es.length) : mid_ step t xs es s (k + 1) = fin_ step t (xs ++ [(es.getD k D0).n]) (es.getD k D0).i.toNat (mid_ step t xs es s k) := by
  unfold mid_ fin_
  rw [List.take_succ_eq_append_getElem h, List.flatMap_append, List.foldl_append, deD h]
  simp
theorem mid_end {σ : Type} (step : σ → Vis → σ) {t : Tr} {s0 : Nat} (hf : Fin t s0) {xs : List ByteArray} {n : Nat} (hr : Rch t s0 xs n) (s : σ) : mid_ step t xs (kids t n) (step s (xs, n)) (kids t n).length = fin_ step t xs n s := by
  unfold mid_ fin_
  rw [sub_eq hf hr, List.take_length, List.foldl_cons]

theorem DB.kept {S : Nat → Prop} {row : Option Nat} {a b : World} {n : Nat} {x : ByteArray} {i : Int} (h : DB a n x i) (k : Kept S row a b) (hS : ¬ S n) (hr : some n ≠ row) : DB b n x i := by
  have hb := k.block n h.lt hS hr
  exact ⟨Nat.lt_of_lt_of_le h.lt k.size, (World.cell?_of_block (a := ⟨n, 0, none⟩) hb).trans h.c0, (World.cell?_of_block (a := ⟨n, 1, none⟩) hb).trans h.c1⟩
theorem DB.drew {w : World} {n : Nat} {x : ByteArray} {i : Int} (h : DB w n x i) : DB w.drew n x i := ⟨h.lt, h.c0, h.c1⟩
/-- The caller's row behind the walk of one child. -/
theorem own_after {y y1 y2 : World} {wr : World} {S : Nat → Prop} {base n g1 cap1 : Nat} {v : Value} {xs : List Value} {x : ByteArray} (hO : wr.ownsRow base 9 1 v n xs) (hy : Below wr.heap.size wr y) (P : Put1 y y1 base v n xs x g1 cap1)
    (hS : ∀ b, S b → b < base) (K : Kept S (some g1) y1 y2) (O : y2.ownsRow base 9 1 (.slice (some ⟨g1, 0, none⟩) (n + 1) cap1) (n + 1) (xs ++ [.string x])) : y2.ownsRow base 9 1 v n xs := by
  have hx : xs.length = n * 1 := hO.1
  rcases P.at_ with rfl | ⟨hg, hgr⟩
  · exact ownsRow_pop hx O
  · refine own_block hO fun q hq hl => ?_
    have h1 := own_low hO q hq
    have h2 : q < y.heap.size := Nat.lt_of_lt_of_le hl hy.size
    rw [K.block q (Nat.lt_of_lt_of_le h2 hgr.size) (fun hs => by have := hS q hs; omega) (fun e => by injection e with e; omega), hgr.block q h2 (by simp), hy.block q hl]

set_option maxRecDepth 100000 in
set_option maxHeartbeats 4000000 in
theorem follow_any {σ : Type} {t : Tr} {s0 : Nat} {g : FuncId} {caps : Array Value} {S : Nat → Prop} {H0 : Nat} {Inv : World → σ → Prop} {step : σ → Vis → σ} (V : Visitor t s0 g caps S H0 Inv step)
    (h1 : Ok1 t) (fr : From t s0) {pt pv pf Bt base : Nat} (L : Lay S H0 pt pv pf Bt base) (a : Option Addr) (c : Nat) :
    ∀ xs n, Rch t s0 xs n → ∀ (W : World) (s : σ) (v : Value), Env W g caps pt pv pf Bt a c t → base ≤ W.heap.size → Inv W s → W.ownsRow base 9 1 v xs.length (xs.map Value.string) →
      Calls Try.prog 59 #[v, .int .i64 (n : Int), .pointer (some ⟨pv, 0, none⟩), .pointer (some ⟨pt, 0, none⟩), .pointer (some ⟨pf, 0, none⟩)] W fun e W' => e = .returned (.tuple #[]) ∧ Went S Inv base v xs (fin_ step t xs n s) W W' := by
  refine sub_ind fr.fin _ fun xs n hr ih => ?_
  intro W s v E hW hI hO
  obtain ⟨hn, _, hvn⟩ := h1.rch hr fr.lt fr.used
  have hxl : xs.length ≤ 40 := Nat.le_trans (fr.fin _ _ hr) h1.le
  have hxm : ∀ x ∈ xs, x.size ≤ maxLen := fun x hx => by have := (vname_size (hvn x hx)).2; unfold maxLen; omega
  have hHW : H0 ≤ W.heap.size := by have := L.t0; have := L.t1; omega
  have HC := Lib.hid (V.call W s xs n v hHW hI hr (strs_row hO hxm (by omega)) (fun q hq => by have := own_low hO q hq; have := L.t0; have := L.t1; omega))
  have eg := V.eg
  obtain ⟨b, o, ve, vd, va, vx, rfl, hb, hc, hs⟩ := E.nd.one hn
  obtain ⟨ea, ec, rfl, hec, hel, hef, hex⟩ := hs.es
  have hc2 := hc.c2
  change W.cell? ⟨b, o + n * 8 + 2, none⟩ = some (.slice ea (kids t n).length ec) at hc2
  change (kids t n).length ≤ ec at hec
  change (kids t n).length ≤ 35184372088832 at hel
  have HEX := Lib.hid (show 0 < (kids t n).length → ∃ b o, ea = some ⟨b, o, none⟩ ∧ b < Bt ∧ ∀ j, j < (kids t n).length →
      W.cell? ⟨b, o + j * 2, none⟩ = some (.string ((kids t n).getD j D0).n) ∧ W.cell? ⟨b, o + j * 2 + 1, none⟩ = some (.int .i64 ((kids t n).getD j D0).i) from hex)
  have HME := Lib.hid (mid_end step fr.fin hr s)
  have HKD := Lib.hid (fun k (hk : k < (kids t n).length) => (show (kids t n).getD k D0 ∈ kids t n from by rw [deD hk]; exact List.getElem_mem hk))
  have HIH := Lib.hid ih
  have HK := Lib.hid (fun e (he : e ∈ kids t n) => h1.kid he)
  have HRS := Lib.hid (fun e (he : e ∈ kids t n) => Rch.snoc hr he)
  have hcl := hc.c2
  clear hex hs hc hef hcl ih hxm hvn hr
  have HMS := Lib.hid (fun k (hk : k < (kids t n).length) => mid_succ step t xs (kids t n) (step s (xs, n)) hk)
  have HMZ := Lib.hid (mid_zero step t xs (kids t n) (step s (xs, n)))
  have nlz : (n : Int) < (t.length : Int) := by omega
  have nz : (0 : Int) ≤ (n : Int) := Int.natCast_nonneg _
  have vc := E.vb.c0
  have EE := Lib.hid E
  have OO := Lib.hid hO
  have LL := Lib.hid L
  have hrow := own_low hO
  have HRW := Lib.hid hrow
  have hbW : Bt ≤ W.heap.size := by have := L.bt; omega
  clear E hO L hrow hI
  generalize kids t n = es at *
  generalize hm : es.length = m at *
  go_enter Try.func59, Try.ntmps59
  go_wp2_with (go_at_fn g; refine HC.out.mono ?_; rintro e W1 ⟨rfl, I1, K1⟩; have E1 := EE.out.kept K1 LL.out (by simp); have hB1 : Below Bt W W1 := K1.below hbW LL.out.sb (by simp); have tc1 := E1.tb.c0; have ec1 := (hB1.cell (p := ⟨b, o + n * 8 + 2, none⟩) hb).trans hc2; have tl1 := E1.tb.lt)
  have KW1 : Kept S v.ownBlock W W1 := ⟨K1.os, K1.tape, K1.output, K1.size, fun k hk hS _ => K1.block k hk hS (by simp)⟩
  have O1 := Lib.hid (own_block OO.out (fun q hq hl => K1.block q hl (fun hs => by have := LL.out.sh q hs; have := HRW.out q hq; have := LL.out.t0; have := LL.out.t1; omega) (by simp)))
  have EK1 := Lib.hid E1
  have KK1 := Lib.hid KW1
  have II1 := Lib.hid I1
  clear I1 K1 E1 KW1 hB1 tc1 ec1 tl1 HC
  go_loopg [8, 20] m (fun gg _ s20 wr => ∃ k : Nat, k ≤ m ∧ m - k ≤ gg ∧ s20 = .int .i64 k ∧ Aside (Env wr g caps pt pv pf Bt (some ⟨b, o, none⟩) c t) ∧ Aside (Went S Inv base v xs (mid_ step t xs es (step s (xs, n)) k) W wr))
  case atStart => exact ⟨0, by omega, by omega, rfl, EK1.out, (show Went S Inv base v xs _ W W1 from ⟨by rw [HMZ.out]; exact II1.out, KK1.out, O1.out⟩)⟩
  case round =>
    obtain ⟨k, hk, hg, rfl, Er, Gr⟩ := hrel
    clear EK1 KK1 II1 O1
    by_cases hlt : k < m
    · have hltz : (k : Int) < (m : Int) := by omega
      obtain ⟨be, oe, rfl, hbe, hje⟩ := HEX.out (by omega)
      have hBr : Below Bt W wr := Gr.out.kept.below hbW LL.out.sb (fun q hq => by have := HRW.out q hq; have := LL.out.t0; have := LL.out.t1; have := LL.out.bt; omega)
      have g0 := (hBr.cell (p := ⟨be, oe + k * 2, none⟩) hbe).trans (hje k hlt).1
      have g1 := (hBr.cell (p := ⟨be, oe + k * 2 + 1, none⟩) hbe).trans (hje k hlt).2
      have HKE := Lib.hid (HKD.out k hlt)
      have HMK := Lib.hid (HMS.out k hlt)
      have HRc := Lib.hid (HRS.out _ HKE.out)
      have HIc := Lib.hid (HIH.out _ HKE.out)
      obtain ⟨q1, q2, q3, _, _⟩ := HK.out _ HKE.out
      clear hje hBr
      generalize es.getD k D0 = e at *
      obtain ⟨x, i⟩ := e
      simp only at g0 g1 HMK HRc HIc q1 q2 q3
      obtain ⟨n2, rfl⟩ := Int.eq_ofNat_of_zero_le (Int.le_of_lt q2)
      simp only [Int.toNat_natCast] at HMK HRc HIc q3
      have fl := Er.out.fb.lt
      have fc := Er.out.fb.c0
      have hwb : base ≤ wr.heap.size := Nat.le_trans hW Gr.out.kept.size
      have hs9 := hwb
      have hH : H0 ≤ wr.heap.size := by have := LL.out.t0; have := LL.out.t1; omega
      have hSw : ¬ S wr.heap.size := fun hs => by have := LL.out.sh _ hs; omega
      have hRw : some wr.heap.size ≠ v.ownBlock := fun e => by have := own_in Gr.out.own _ e.symm; omega
      go_wp2_with fail
      go_region_held3 (fun w' => w'.cell? ⟨pf, 0, none⟩ = some (.func (.func 59) #[] #[.pointer (some ⟨pv, 0, none⟩), .pointer (some ⟨pt, 0, none⟩), .pointer (some ⟨pf, 0, none⟩)]) ∧ w'.cell? ⟨wr.heap.size, 0, none⟩ = some (.string x) ∧ w'.cell? ⟨wr.heap.size, 1, none⟩ = some (.int .i64 (n2 : Int)))
        (first | go_keep | exact ⟨kf, k0, k1⟩)
        (first
          | (refine step_put1 (by rfl) (.tmp 25) (.tmp 28) (by rfl) base v xs.length (xs.map Value.string) (by simp [Act.eval]) (own_below Gr.out.own ((((Below.refl wr.heap.size wr).alloc (Nat.le_refl _) _).alloc (by first | omega | (simp; done) | (simp; omega)) _).drew)) (wr.heap.size + 1) x (by simp [Act.eval]) (by simp) (by omega) (by first | omega | (simp; done) | (simp; omega)) ?_; intro g1 cap1 y1 P1; have hy := ((((Below.refl wr.heap.size wr).alloc (Nat.le_refl _) (.cells #[.string x, .int .i64 (n2 : Int)] 49)).alloc (by first | omega | (simp; done) | (simp; omega)) (.cells #[.string x] 9)).drew); have KA : Kept S v.ownBlock wr y1 := (Kept.of_below hy).trans (Kept.of_grown P1.grown); have E2 := Er.out.kept KA LL.out HRW.out; have D2 := (((DB.new wr x (n2 : Int) 49).alloc (.cells #[.string x] 9)).drew).kept (S := S) (Kept.of_grown P1.grown) hSw hRw; have kf := E2.fb.c0; have k0 := D2.c0; have k1 := D2.c1; have s2 := KA.size; have hgw : g1 ≠ wr.heap.size := by (rcases P1.at_ with h9 | h9; exact fun e => hRw (by rw [h9, e]; rfl); exact fun e => by have := h9.1; simp [World.drew] at this; omega))
          | (go_at_call 59; refine (HIc.out y1 _ (.slice (some ⟨g1, 0, none⟩) (xs.length + 1) cap1) E2 (Nat.le_trans hwb s2) (V.keep wr y1 _ Gr.out.inv ((hy.mono hH).grown P1.grown (by first | omega | (simp; done) | (simp; omega)) (fun q hq => by have := HRW.out q hq; have := LL.out.t0; have := LL.out.t1; omega))) (by simpa using P1.own)).mono ?_; rintro e y2 ⟨rfl, G2⟩; have K2 : Kept S (some g1) y1 y2 := G2.kept; have E3 := E2.kept K2 LL.out (fun q hq => by injection hq with hq; subst hq; exact own_low P1.own _ rfl); have D3 := D2.kept K2 hSw (fun e => by injection e with e; exact hgw e.symm); have kf := E3.fb.c0; have k0 := D3.c0; have k1 := D3.c1)
          | ((trace_state; fail)))
      all_goals
        have KF : Kept S v.ownBlock wr y2 := KA.since K2 (fun q hq => by injection hq with hq; subst hq; rcases P1.at_ with h9 | h9; exact .inl (by rw [h9]; rfl); exact .inr (by have := h9.1; simp [World.drew] at this; omega))
        have EF := Lib.hid (Er.out.kept KF LL.out HRW.out)
        have GF : Went S Inv base v xs (mid_ step t xs es (step s (xs, n)) (k + 1)) W y2 := ⟨by rw [HMK.out]; exact G2.inv, Gr.out.kept.trans KF, own_after Gr.out.own hy P1 (fun q hq => by have := LL.out.sh q hq; have := LL.out.t0; have := LL.out.t1; omega) K2 (by simpa using G2.own)⟩
        have GG := Lib.hid GF
        clear KF GF E2 E3 D2 D3 G2 K2 P1 hy KA kf k0 k1
        go_wp2
        go_roundg (m - (k + 1))
        case measure => omega
        case rel => exact ⟨k + 1, by omega, by omega, by go_num, EF.out, GG.out⟩
    · obtain rfl : k = m := by omega
      have GE := Lib.hid Gr.out
      go_wp2
      go_end0
      exact ⟨rfl, by rw [← HME.out]; exact GE.out⟩

end Go.Proofs.Ytndhhofidkaomaa

/- The function that fieldCheck returns, at every inode. Conditions: the tree's cells lie in memory as they read. -/

set_option linter.all false
namespace Go.Proofs.Ytndhhofidkaomaa
open Go.RowKit

theorem NodC.new (w : World) (x : Nod) (ve vd va vx : Value) (t : TypeId) : NodC (w.alloc (.cells #[.int .i64 x.k, .int .i64 x.o, ve, vd, va, vx, .int .i64 x.q, .int .i64 x.v] t)) w.heap.size 0 ve vd va vx x :=
  ⟨by simp, by simp, by simp, by simp, by simp, by simp, by simp, by simp⟩
theorem NodC.below {w w' : World} {B b o : Nat} {ve vd va vx : Value} {x : Nod} (h : NodC w b o ve vd va vx x) (hb : Below B w w') (hB : b < B) : NodC w' b o ve vd va vx x :=
  h.keep fun o => hb.cell (p := ⟨b, o, none⟩) hB

/-- What holds all through the region: memory below is as it was, the inode's copy and the tree lie there. -/
structure RS (w y : World) (nb pt : Nat) (tv : Value) (ve vd va vx : Value) (x : Nod) : Prop where
  b : Below w.heap.size w y
  lt : nb < y.heap.size
  n : NodC y nb 0 ve vd va vx x
  t : One y pt tv
theorem RS.step {w y z : World} {nb pt : Nat} {tv ve vd va vx : Value} {x : Nod} (h : RS w y nb pt tv ve vd va vx x) (hb : Below y.heap.size y z) : RS w z nb pt tv ve vd va vx x :=
  ⟨h.b.trans (hb.mono h.b.size), Nat.lt_of_lt_of_le h.lt hb.size, h.n.below hb h.lt, h.t.below hb h.t.lt⟩
theorem RS.alloc {w y : World} {nb pt : Nat} {tv ve vd va vx : Value} {x : Nod} (h : RS w y nb pt tv ve vd va vx x) (o : Obj) : RS w (y.alloc o) nb pt tv ve vd va vx x :=
  h.step ((Below.refl _ _).alloc (Nat.le_refl _) o)
theorem RS.drew {w y : World} {nb pt : Nat} {tv ve vd va vx : Value} {x : Nod} (h : RS w y nb pt tv ve vd va vx x) : RS w y.drew nb pt tv ve vd va vx x :=
  h.step (Below.refl _ _).drew
theorem RS.full {w y : World} {nb pt : Nat} {tv ve vd va vx : Value} {x : Nod} (h : RS w y nb pt tv ve vd va vx x) :
    RS w y nb pt tv ve vd va vx x ∧ y.cell? ⟨nb, 0, none⟩ = some (.int .i64 x.k) ∧ y.cell? ⟨nb, 1, none⟩ = some (.int .i64 x.o) ∧ y.cell? ⟨nb, 2, none⟩ = some ve ∧ y.cell? ⟨nb, 3, none⟩ = some vd ∧ y.cell? ⟨nb, 4, none⟩ = some va ∧ y.cell? ⟨nb, 5, none⟩ = some vx ∧ y.cell? ⟨nb, 6, none⟩ = some (.int .i64 x.q) ∧ y.cell? ⟨nb, 7, none⟩ = some (.int .i64 x.v) ∧ y.cell? ⟨pt, 0, none⟩ = some tv := by
  have h1 := h.n.c1; have h2 := h.n.c2; have h3 := h.n.c3; have h4 := h.n.c4; have h5 := h.n.c5; have h6 := h.n.c6; have h7 := h.n.c7
  simp only [Nat.zero_add] at h1 h2 h3 h4 h5 h6 h7
  exact ⟨h, h.n.c0, h1, h2, h3, h4, h5, h6, h7, h.t.c0⟩

theorem field_code (c i : Int) (w : World) : (Instr.field 27 (.agg #[.int .i64 c, .int .i64 i]) 0).run Try.prog w = .ok (.int .i64 c) w := by kernel_rfl

set_option maxRecDepth 100000 in
set_option maxHeartbeats 4000000 in
theorem fieldCheck1_any (a : Option Addr) (c : Nat) (t : Tr) (n pt : Nat) (w : World) (h : Nods w w.heap.size a c t) (hp : One w pt (.slice a t.length c)) (hn : n < t.length) :
    Calls Try.prog 40 #[.int .i64 (n : Int), .pointer (some ⟨pt, 0, none⟩)] w fun e w' => e = .returned (.int .i64 (codeN t (nod t n))) ∧ Below w.heap.size w w' := by
  obtain ⟨b, o, ve, vd, va, vx, rfl, hb, hc, hs⟩ := h.one hn
  obtain ⟨ea, ec, rfl⟩ : ∃ ea ec, ve = .slice ea (nod t n).es.length ec := by obtain ⟨ea, ec, e, _⟩ := hs.es; exact ⟨ea, ec, e⟩
  obtain ⟨da, dc, rfl⟩ : ∃ da dc, vd = .slice da (nod t n).dl dc := by obtain ⟨da, dc, e, _⟩ := hs.dl; exact ⟨da, dc, e⟩
  obtain ⟨aa, acp, rfl⟩ : ∃ aa ac, va = .slice aa (nod t n).ac.length ac := by obtain ⟨da, dc, e, _⟩ := hs.ac; exact ⟨da, dc, e⟩
  obtain ⟨xa, xc, rfl⟩ : ∃ xa xc, vx = .slice xa (nod t n).xs.length xc := by obtain ⟨da, dc, e, _⟩ := hs.xs; exact ⟨da, dc, e⟩
  have nlz : (n : Int) < (t.length : Int) := by omega
  have nz : (0 : Int) ≤ (n : Int) := Int.natCast_nonneg _
  have HN := Lib.hid (show codeN t (nod t n) = if (nod t n).k = 0 then codeF (nod t n) else if (nod t n).k = 1 ∨ (nod t n).k = 2 then or4 (codeC (nod t n)) (valF (nod t n).ac).1 (valA (nod t n).xs).1 (codeEs t (nod t n).es) else 4 from rfl)
  have D1 := Lib.hid (fun W (hb : Below w.heap.size w W) => checkFree_any (nod t n) _ _ _ _ W (hs.up hb))
  have D2 := Lib.hid (fun W (hb : Below w.heap.size w W) => checkContents_any (nod t n) _ _ _ _ W (hs.up hb))
  have D3 := Lib.hid (fun W (hb : Below w.heap.size w W) => validate_any _ (nod t n).ac W ((hs.up hb).ac))
  have D4 := Lib.hid (fun W (hb : Below w.heap.size w W) => xvalidate_any _ (nod t n).xs W ((hs.up hb).xs))
  have D5 := Lib.hid (fun W (hb : Below w.heap.size w W) => checkEntries_any (some ⟨b, o, none⟩) c t _ (nod t n).es W (h.up hb) ((hs.up hb).es))
  unfold valV faultV at D3
  unfold valAV faultV at D4
  have h0 := hc.c0
  have h1 := hc.c1
  have h2 := hc.c2
  have h3 := hc.c3
  have h4 := hc.c4
  have h5 := hc.c5
  have h6 := hc.c6
  have h7 := hc.c7
  have hpc := hp.c0
  have hpl := hp.lt
  have HR := Lib.hid (show RS w (w.alloc (.cells #[.int .i64 (nod t n).k, .int .i64 (nod t n).o, .slice ea (nod t n).es.length ec, .slice da (nod t n).dl dc, .slice aa (nod t n).ac.length acp, .slice xa (nod t n).xs.length xc, .int .i64 (nod t n).q, .int .i64 (nod t n).v] 47)) w.heap.size pt (.slice (some ⟨b, o, none⟩) t.length c) (.slice ea (nod t n).es.length ec) (.slice da (nod t n).dl dc) (.slice aa (nod t n).ac.length acp) (.slice xa (nod t n).xs.length xc) (nod t n) from
    ⟨(Below.refl _ _).alloc (Nat.le_refl _) _, by simp, NodC.new _ _ _ _ _ _ _, hp.alloc _⟩)
  clear hc hs h hp
  generalize codeN t (nod t n) = r at *
  generalize codeF (nod t n) = r1 at *
  generalize codeC (nod t n) = r2 at *
  generalize (valF (nod t n).ac).1 = r3 at *
  generalize (valF (nod t n).ac).2 = r3b at *
  generalize (valA (nod t n).xs).1 = r4 at *
  generalize (valA (nod t n).xs).2 = r4b at *
  generalize codeEs t (nod t n).es = r5 at *
  generalize nod t n = x at *
  obtain ⟨k, ow, es, dl, ac, xs, q, v⟩ := x
  simp only at *
  have hf3 := field_code r3 r3b
  have hf4 := field_code r4 r4b
  by_cases k0 : k = 0
  · subst k0
    rw [if_pos rfl] at HN
    go_enter Try.func40, Try.ntmps40
    go_wp2_with fail
    refine (D1.out _ ((Below.refl _ _).alloc (Nat.le_refl _) _)).mono ?_
    rintro e w2 ⟨rfl, hb2⟩
    have hB2 : Below w.heap.size w w2 := ((Below.refl _ _).alloc (Nat.le_refl _) _).trans (hb2.mono (by first | omega | (simp; done) | (simp; omega)))
    clear hb2
    go_wp2
    go_ret
    exact ⟨ret_int HN.out.symm, hB2⟩
  · have k1 : (k == 0) = false := by simpa using k0
    rw [if_neg k0] at HN
    by_cases k2 : k = 1 ∨ k = 2
    · rw [if_pos k2] at HN
      clear k0
      rcases k2 with rfl | rfl
      · go_enter Try.func40, Try.ntmps40
        go_wp2_with fail
        go_region_held3 (fun y => RS w y w.heap.size pt (.slice (some ⟨b, o, none⟩) t.length c) (.slice ea es.length ec) (.slice da dl dc) (.slice aa ac.length acp) (.slice xa xs.length xc) ⟨1, ow, es, dl, ac, xs, q, v⟩ ∧ y.cell? ⟨w.heap.size, 0, none⟩ = some (.int .i64 1) ∧ y.cell? ⟨w.heap.size, 1, none⟩ = some (.int .i64 ow) ∧ y.cell? ⟨w.heap.size, 2, none⟩ = some (.slice ea es.length ec) ∧ y.cell? ⟨w.heap.size, 3, none⟩ = some (.slice da dl dc) ∧ y.cell? ⟨w.heap.size, 4, none⟩ = some (.slice aa ac.length acp) ∧ y.cell? ⟨w.heap.size, 5, none⟩ = some (.slice xa xs.length xc) ∧ y.cell? ⟨w.heap.size, 6, none⟩ = some (.int .i64 q) ∧ y.cell? ⟨w.heap.size, 7, none⟩ = some (.int .i64 v) ∧ y.cell? ⟨pt, 0, none⟩ = some (.slice (some ⟨b, o, none⟩) t.length c))
          (first | exact RS.full hR | exact RS.full HR.out.drew | exact RS.full (RS.alloc (And.left ‹RS w _ w.heap.size pt _ _ _ _ _ _ ∧ _›) _))
          (first
            | (go_at_call 43; have hs0 := And.left ‹RS w _ w.heap.size pt _ _ _ _ _ _ ∧ _›; refine (D2.out _ hs0.b).mono ?_; rintro e y ⟨rfl, hb⟩; have hR := hs0.step hb)
            | (go_at_call 44; have hs0 := And.left ‹RS w _ w.heap.size pt _ _ _ _ _ _ ∧ _›; refine (D3.out _ hs0.b).mono ?_; rintro e y ⟨rfl, hb⟩; have hR := hs0.step hb)
            | (go_at_call 45; have hs0 := And.left ‹RS w _ w.heap.size pt _ _ _ _ _ _ ∧ _›; refine (D4.out _ hs0.b).mono ?_; rintro e y ⟨rfl, hb⟩; have hR := hs0.step hb)
            | (go_at_call 46; have hs0 := And.left ‹RS w _ w.heap.size pt _ _ _ _ _ _ ∧ _›; refine (D5.out _ hs0.b).mono ?_; rintro e y ⟨rfl, hb⟩; have hR := hs0.step hb)
            | (go_at_call 42; have hR := And.left ‹RS w _ w.heap.size pt _ _ _ _ _ _ ∧ _›; refine (or4_any r2 r3 r4 r5 _ _ (by simp) (by simp) (by simp) (by simp) (by simp)).mono ?_; rintro e y ⟨rfl, rfl⟩))
        all_goals
          have hz := And.left ‹RS w _ w.heap.size pt _ _ _ _ _ _ ∧ _›
          go_wp2
          go_ret
          exact ⟨ret_int HN.out.symm, hz.b⟩
      · go_enter Try.func40, Try.ntmps40
        go_wp2_with fail
        go_region_held3 (fun y => RS w y w.heap.size pt (.slice (some ⟨b, o, none⟩) t.length c) (.slice ea es.length ec) (.slice da dl dc) (.slice aa ac.length acp) (.slice xa xs.length xc) ⟨2, ow, es, dl, ac, xs, q, v⟩ ∧ y.cell? ⟨w.heap.size, 0, none⟩ = some (.int .i64 2) ∧ y.cell? ⟨w.heap.size, 1, none⟩ = some (.int .i64 ow) ∧ y.cell? ⟨w.heap.size, 2, none⟩ = some (.slice ea es.length ec) ∧ y.cell? ⟨w.heap.size, 3, none⟩ = some (.slice da dl dc) ∧ y.cell? ⟨w.heap.size, 4, none⟩ = some (.slice aa ac.length acp) ∧ y.cell? ⟨w.heap.size, 5, none⟩ = some (.slice xa xs.length xc) ∧ y.cell? ⟨w.heap.size, 6, none⟩ = some (.int .i64 q) ∧ y.cell? ⟨w.heap.size, 7, none⟩ = some (.int .i64 v) ∧ y.cell? ⟨pt, 0, none⟩ = some (.slice (some ⟨b, o, none⟩) t.length c))
          (first | exact RS.full hR | exact RS.full HR.out.drew | exact RS.full (RS.alloc (And.left ‹RS w _ w.heap.size pt _ _ _ _ _ _ ∧ _›) _))
          (first
            | (go_at_call 43; have hs0 := And.left ‹RS w _ w.heap.size pt _ _ _ _ _ _ ∧ _›; refine (D2.out _ hs0.b).mono ?_; rintro e y ⟨rfl, hb⟩; have hR := hs0.step hb)
            | (go_at_call 44; have hs0 := And.left ‹RS w _ w.heap.size pt _ _ _ _ _ _ ∧ _›; refine (D3.out _ hs0.b).mono ?_; rintro e y ⟨rfl, hb⟩; have hR := hs0.step hb)
            | (go_at_call 45; have hs0 := And.left ‹RS w _ w.heap.size pt _ _ _ _ _ _ ∧ _›; refine (D4.out _ hs0.b).mono ?_; rintro e y ⟨rfl, hb⟩; have hR := hs0.step hb)
            | (go_at_call 46; have hs0 := And.left ‹RS w _ w.heap.size pt _ _ _ _ _ _ ∧ _›; refine (D5.out _ hs0.b).mono ?_; rintro e y ⟨rfl, hb⟩; have hR := hs0.step hb)
            | (go_at_call 42; have hR := And.left ‹RS w _ w.heap.size pt _ _ _ _ _ _ ∧ _›; refine (or4_any r2 r3 r4 r5 _ _ (by simp) (by simp) (by simp) (by simp) (by simp)).mono ?_; rintro e y ⟨rfl, rfl⟩))
        all_goals
          have hz := And.left ‹RS w _ w.heap.size pt _ _ _ _ _ _ ∧ _›
          go_wp2
          go_ret
          exact ⟨ret_int HN.out.symm, hz.b⟩
    · rw [if_neg k2] at HN
      have k3 : (k == 1) = false := by have : k ≠ 1 := fun e => k2 (.inl e); simpa using this
      have k4 : (k == 2) = false := by have : k ≠ 2 := fun e => k2 (.inr e); simpa using this
      clear k0 k2
      go_enter Try.func40, Try.ntmps40
      go_wp2
      go_ret
      exact ⟨ret_int HN.out.symm, (Below.refl _ _).alloc (Nat.le_refl _) _⟩

end Go.Proofs.Ytndhhofidkaomaa

/- The reference's Routes: the places below an inode in breadth-first order, as a row. Conditions: the tree's inodes are valid by themselves, all walks from the start end; its cells lie in memory as they read. -/

set_option linter.all false
namespace Go.Proofs.Ytndhhofidkaomaa
open Go.RowKit

/-- The children of a visit, the first k of them. -/
def someNext (t : Tr) (p : Vis) (k : Nat) : List Vis := ((kids t p.2).take k).map fun e => (p.1 ++ [e.n], e.i.toNat)
theorem someNext_zero (t : Tr) (p : Vis) : someNext t p 0 = [] := by unfold someNext; simp
theorem someNext_succ {t : Tr} {p : Vis} {k : Nat} (h : k < (kids t p.2).length) : someNext t p (k + 1) = someNext t p k ++ [(p.1 ++ [((kids t p.2).getD k D0).n], ((kids t p.2).getD k D0).i.toNat)] := by
  unfold someNext
  rw [List.take_succ_eq_append_getElem h, deD h, List.map_append]
  rfl
theorem someNext_all (t : Tr) (p : Vis) : someNext t p (kids t p.2).length = next t p := by
  unfold someNext next; rw [List.take_length]
theorem someNext_len (t : Tr) (p : Vis) (k : Nat) : (someNext t p k).length ≤ k := by unfold someNext; simp; omega
/-- Block n holds a route. -/
structure RBox (w : World) (n : Nat) (p : Vis) : Prop where
  lt : n < w.heap.size
  c0 : w.cell? ⟨n, 0, none⟩ = some (.string (bP p.1))
  c1 : w.cell? ⟨n, 1, none⟩ = some (.int .i64 (p.1.length : Nat))
  c2 : w.cell? ⟨n, 2, none⟩ = some (.int .i64 (p.2 : Nat))
theorem RBox.of_block {w w' : World} {n : Nat} {p : Vis} (h : RBox w n p) (hs : w.heap.size ≤ w'.heap.size) (hb : w'.heap[n]? = w.heap[n]?) : RBox w' n p :=
  ⟨Nat.lt_of_lt_of_le h.lt hs, (World.cell?_of_block (a := ⟨n, 0, none⟩) hb).trans h.c0, (World.cell?_of_block (a := ⟨n, 1, none⟩) hb).trans h.c1, (World.cell?_of_block (a := ⟨n, 2, none⟩) hb).trans h.c2⟩
theorem RBox.new (w : World) (p : Vis) (ty : TypeId) : RBox (w.alloc (.cells #[.string (bP p.1), .int .i64 (p.1.length : Nat), .int .i64 (p.2 : Nat)] ty)) w.heap.size p :=
  ⟨by simp, by simp, by simp, by simp⟩
theorem RBox.alloc {w : World} {n : Nat} {p : Vis} (h : RBox w n p) (o : Obj) : RBox (w.alloc o) n p :=
  h.of_block (by simp) (heap_alloc_old w o h.lt)

/-- What holds while the row grows: the tree's box at block w.heap.size, the row above it. -/
structure RtInv (w wr : World) (a : Option Addr) (n c : Nat) (v : Value) (L : List Vis) : Prop where
  b : Below w.heap.size w wr
  tb : One wr w.heap.size (.slice a n c)
  own : wr.ownsRow (w.heap.size + 1) 58 3 v L.length (flatV L)
theorem RtInv.step {w wr z : World} {a : Option Addr} {n c : Nat} {v : Value} {L : List Vis} (h : RtInv w wr a n c v L) (hb : Below wr.heap.size wr z) : RtInv w z a n c v L :=
  ⟨h.b.trans (hb.mono h.b.size), h.tb.below hb h.tb.lt, own_below h.own hb⟩
theorem RtInv.grow {w wr z : World} {a : Option Addr} {n c : Nat} {v v' : Value} {L L' : List Vis} (h : RtInv w wr a n c v L) (ho : z.ownsRow (w.heap.size + 1) 58 3 v' L'.length (flatV L')) (hg : wr.grownBy z v.ownBlock) : RtInv w z a n c v' L' :=
  ⟨h.b.trans ((Kept.of_grown (S := fun _ => False) hg).below h.b.size (fun _ hk => hk.elim) (fun g hg2 => by have := own_low h.own g hg2; omega)), h.tb.grown hg (fun e => by have := own_low h.own _ e.symm; omega), ho⟩

theorem RtInv.put {w wr y z : World} {a : Option Addr} {n c : Nat} {v v' : Value} {L : List Vis} {p : Vis} (h : RtInv w wr a n c v L) (hb : Below wr.heap.size wr y) (ho : z.ownsRow (w.heap.size + 1) 58 3 v' (L.length + 1) (flatV (L ++ [p]))) (hg : y.grownBy z v.ownBlock) : RtInv w z a n c v' (L ++ [p]) :=
  (h.step hb).grow (by simpa using ho) hg
theorem RBox.put {wr y z : World} {nb : Nat} {v : Value} {p : Vis} (h : RBox wr nb p) (hb : Below wr.heap.size wr y) (hg : y.grownBy z v.ownBlock) (hn : ∀ q, v.ownBlock = some q → q ≠ nb) : RBox z nb p :=
  (h.of_block hb.size (hb.block nb h.lt)).of_block hg.size (hg.block nb (Nat.lt_of_lt_of_le h.lt hb.size) (fun e => hn nb e.symm rfl))
theorem vis_lt {L : List Vis} {i : Nat} (h : i < L.length) : L.getD i V0 ∈ L := by rw [visD h]; exact List.getElem_mem h

theorem toL47 : (⟨#[47]⟩ : ByteArray).toList = [47] := by decide +kernel
theorem base_cases {xs : List ByteArray} (hv : ∀ x ∈ xs, vname x = true) : ∃ Bs : ByteArray, Bs = ⟨(flatP xs).toArray⟩ ∧ (((bP xs).toList == [47]) = true ∧ Bs = ⟨#[]⟩ ∨ ((bP xs).toList == [47]) = false ∧ Bs = bP xs) := by
  by_cases h : xs = []
  · subst h
    exact ⟨⟨#[]⟩, rfl, .inl ⟨by rw [bP_nil, toL47]; rfl, rfl⟩⟩
  · exact ⟨bP xs, by unfold bP; rw [pstr_flat h], .inr ⟨by rw [← toL47, beq_str]; simpa using bP_ne h hv, rfl⟩⟩
theorem sz_arr (l : List UInt8) : (⟨l.toArray⟩ : ByteArray).size = l.length := by simp [ByteArray.size]

set_option maxRecDepth 100000 in
set_option maxHeartbeats 8000000 in
theorem routes_any (a : Option Addr) (c : Nat) (t : Tr) (s : Nat) (w : World) (h1 : Ok1 t) (fr : From t s) (h : Nods w w.heap.size a c t) :
    Calls Try.prog 25 #[.agg #[.slice a t.length c], .int .i64 (s : Int)] w fun e w' => ∃ v L, e = .returned v ∧ Vs w' w'.heap.size v L ∧ (visits t s).Perm L ∧ (∀ q, v.ownBlock = some q → w.heap.size < q) ∧ Below w.heap.size w w' := by
  have H := Lib.hid h
  have H1 := Lib.hid h1
  have FR := Lib.hid fr
  have hlen := len_visits h1 fr
  have h40 := h1.le
  have I0 := Lib.hid (show RtInv w ((w.alloc (.cells #[.slice a t.length c] 24)).alloc (.cells #[.string ⟨#[47]⟩, .int .i64 0, .int .i64 (s : Int)] 58)) a t.length c (.slice (some ⟨w.heap.size + 1, 0, none⟩) 1 1) [([], s)] from
    ⟨((Below.refl _ _).alloc (Nat.le_refl _) _).alloc (by first | omega | (simp; done) | (simp; omega)) _, (One.new w _ _).alloc _, by have := vs_new (w.alloc (.cells #[.slice a t.length c] 24)) ([], s); rw [bP_nil] at this; simpa using this⟩)
  clear h h1 fr
  go_enter Try.func25, Try.ntmps25
  go_wp2_with fail
  have HLEN := Lib.hid (fun L i (b : Bfs t s L i) => b.len FR.out.fin)
  generalize hM : (visits t s).length = M at *
  go_loopg [5, 6, 7, 8, 9, 10] M (fun gg s5 s6 _ _ _ _ wr => ∃ (L : List Vis) (i : Nat), i ≤ L.length ∧ 0 < L.length ∧ M - i ≤ gg ∧ s6 = .int .i64 i ∧ Aside (Bfs t s L i) ∧ Aside (RtInv w wr a t.length c s5 L))
  case atStart => exact ⟨[([], s)], 0, by omega, by simp, by omega, rfl, Bfs.start, I0.out⟩
  case round =>
    obtain ⟨L, i, hi, hL0, hg, rfl, BF, I⟩ := hrel
    clear I0
    obtain ⟨w2, rfl⟩ : ∃ w2 : World, w2 = wr := ⟨_, rfl⟩
    have hLM := HLEN.out L i BF.out
    have hbs := I.out.b.size
    have tc := I.out.tb.c0
    have tl := I.out.tb.lt
    obtain ⟨rb, rc, rfl, hrc, _, hrb, hcell⟩ := vs_own I.out.own hL0
    by_cases hlt : i < L.length
    · have hltz : (i : Int) < (L.length : Int) := by omega
      have hi0 : (0 : Int) ≤ (i : Int) := Int.natCast_nonneg _
      have hm9 : M - (i + 1) < M - i := by omega
      obtain ⟨r0, r1, r2⟩ := hcell i hlt
      have hrch := BF.out.rch _ (vis_lt hlt)
      obtain ⟨hm, _, hvn⟩ := H1.out.rch hrch FR.out.lt FR.out.used
      have hxl : (L.getD i V0).1.length ≤ 40 := Nat.le_trans (FR.out.fin _ _ hrch) h40
      have HB := Lib.hid (show Bfs t s (L ++ next t (L.getD i V0)) (i + 1) from by rw [visD hlt]; exact BF.out.step FR.out.fin hlt)
      have hfs := flatP_size hvn
      have hbz := bP_size hvn
      obtain ⟨Bs, hBs, hcase⟩ := base_cases hvn
      have hcs := Lib.hid hBs
      clear hcell hrch hBs hvn
      generalize hp : L.getD i V0 = p at *
      obtain ⟨xs, m⟩ := p
      simp only at r0 r1 r2 hm hxl hfs hbz hcs hcase
      have mlz : (m : Int) < (t.length : Int) := by omega
      have mz : (0 : Int) ≤ (m : Int) := Int.natCast_nonneg _
      obtain ⟨b, o, ve, vd, va, vx, rfl, hb, hc, hs⟩ := H.out.one hm
      obtain ⟨ea, ec, rfl, hec, hel, hef, hex⟩ := hs.es
      have g2w := hc.c2
      change w.cell? ⟨b, o + m * 8 + 2, none⟩ = some (.slice ea (kids t m).length ec) at g2w
      have g2 := (I.out.b.cell (p := ⟨b, o + m * 8 + 2, none⟩) hb).trans g2w
      change (kids t m).length ≤ ec at hec
      change (kids t m).length ≤ 35184372088832 at hel
      have hk16 := (H1.out.fine m).len
      change (kids t m).length ≤ 16 at hk16
      have HEX := Lib.hid (show 0 < (kids t m).length → ∃ b o, ea = some ⟨b, o, none⟩ ∧ b < w.heap.size ∧ ∀ j, j < (kids t m).length →
        w.cell? ⟨b, o + j * 2, none⟩ = some (.string ((kids t m).getD j D0).n) ∧ w.cell? ⟨b, o + j * 2 + 1, none⟩ = some (.int .i64 ((kids t m).getD j D0).i) from hex)
      have HKD := Lib.hid (fun k (hk : k < (kids t m).length) => H1.out.kid (show (kids t m).getD k D0 ∈ kids t m from by rw [deD hk]; exact List.getElem_mem hk))
      have HSN := Lib.hid (fun k (hk : k < (kids t m).length) => someNext_succ (t := t) (p := (xs, m)) hk)
      have HSL := Lib.hid (fun k => someNext_len t (xs, m) k)
      have HSA := Lib.hid (someNext_all t (xs, m))
      have HSZ := Lib.hid (someNext_zero t (xs, m))
      clear hc hs hef hex
      generalize hn : (kids t m).length = n at *
      have I1 := Lib.hid (I.out.step ((Below.refl w2.heap.size w2).alloc (Nat.le_refl _) (.cells #[.string (bP xs), .int .i64 (xs.length : Nat), .int .i64 (m : Nat)] 58)))
      have R1 := Lib.hid (RBox.new w2 (xs, m) 58)
      have B1 := Lib.hid ((Below.refl w2.heap.size w2).alloc (Nat.le_refl _) (.cells #[.string (bP xs), .int .i64 (xs.length : Nat), .int .i64 (m : Nat)] 58))
      have HI := Lib.hid (own_in I.out.own)
      rcases hcase with ⟨ht, rfl⟩ | ⟨ht, rfl⟩
      all_goals
        go_wp2_with fail
        clear tc tl g2 ht r0 r1 r2
        go_loopg [5, 9, 10] n (fun gg s5 s9 _ wq => ∃ k : Nat, k ≤ n ∧ n - k ≤ gg ∧ s9 = .int .i64 k ∧ Aside (RtInv w wq (some ⟨b, o, none⟩) t.length c s5 (L ++ someNext t (xs, m) k)) ∧ Aside (RBox wq w2.heap.size (xs, m)) ∧ Aside (∀ q, s5.ownBlock = some q → q ≠ w2.heap.size))
        case atStart => exact ⟨0, by omega, by omega, rfl, by rw [HSZ.out, List.append_nil]; exact I1.out, R1.out, (show ∀ q, _ → _ from fun q hq => by have := HI.out q hq; omega)⟩
        case round =>
          obtain ⟨k, hk, hg2, rfl, IQ, RQ, NQ⟩ := hrel
          clear I1 R1 B1
          have hsl := HSL.out k
          have hbq := IQ.out.b.size
          have tc := IQ.out.tb.c0
          have tl := IQ.out.tb.lt
          have z0 := RQ.out.c0
          have z1 := RQ.out.c1
          have z2 := RQ.out.c2
          have zl := RQ.out.lt
          simp only at z0 z1 z2
          have g2 := (IQ.out.b.cell (p := ⟨b, o + m * 8 + 2, none⟩) hb).trans g2w
          have HIQ := Lib.hid (own_in IQ.out.own)
          by_cases hlk : k < n
          · have hlkz : (k : Int) < (n : Int) := by omega
            have hk0 : (0 : Int) ≤ (k : Int) := Int.natCast_nonneg _
            have hm8 : n - (k + 1) < n - k := by omega
            obtain ⟨be, oe, rfl, hbe, hje⟩ := HEX.out (by omega)
            have g0 := (IQ.out.b.cell (p := ⟨be, oe + k * 2, none⟩) hbe).trans (hje k hlk).1
            have g1 := (IQ.out.b.cell (p := ⟨be, oe + k * 2 + 1, none⟩) hbe).trans (hje k hlk).2
            have HS := Lib.hid (HSN.out k hlk)
            obtain ⟨q1, q2, q3, _, _⟩ := HKD.out k hlk
            clear hje
            generalize hy : (kids t m).getD k D0 = e at *
            obtain ⟨x, ei⟩ := e
            simp only at g0 g1 q1 q2 q3
            obtain ⟨n2, rfl⟩ := Int.eq_ofNat_of_zero_le (Int.le_of_lt q2)
            simp only [Int.toNat_natCast] at q3
            have hxs := (vname_size q1).2
            clear hy q1 q2
            simp only [Int.toNat_natCast] at HS
            have HL := Lib.hid (show L ++ someNext t (xs, m) (k + 1) = (L ++ someNext t (xs, m) k) ++ [(xs ++ [x], n2)] from by rw [HS.out, List.append_assoc])
            have hll : (L ++ someNext t (xs, m) k).length ≤ 700 := by rw [List.length_append]; omega
            have hl0 : 0 < (L ++ someNext t (xs, m) k).length := by rw [List.length_append]; omega
            generalize L ++ someNext t (xs, m) k = Lk at *
            obtain ⟨qb, qc, rfl, hqc, _, hqb, _⟩ := vs_own IQ.out.own hl0
            have hs1 : (bP xs).size + 1 ≤ 9223372036854775807 := by omega
            have hs2 : (bP xs).size + 1 + x.size ≤ 9223372036854775807 := by omega
            go_wp2_with (at_builtin; refine wpList_append_rt rfl (.tmp 50) (.tmp 62) rfl (w.heap.size + 1) _ _ Lk rfl (own_below IQ.out.own (((Below.refl wr.heap.size wr).alloc (Nat.le_refl _) _).alloc (by first | omega | (simp; done) | (simp; omega)) _)) (wr.heap.size + 1) (xs ++ [x], n2) rfl (by show _ = some (Value.string (bP (xs ++ [x]))); rw [← bP_snoc, ← hcs.out]; simp) (by simp) (by simp) (by omega) (by simp; omega) ?_; intro v3 w3 hown3 hg3 hq3)
            have IP := Lib.hid (RtInv.put IQ.out (hg := hg3) (ho := hown3) (hb := by exact (((Below.refl wr.heap.size wr).alloc (Nat.le_refl _) _).alloc (by first | omega | (simp; done) | (simp; omega)) _)))
            have RP := Lib.hid (RBox.put RQ.out (hg := hg3) (hn := NQ.out) (hb := by exact (((Below.refl wr.heap.size wr).alloc (Nat.le_refl _) _).alloc (by first | omega | (simp; done) | (simp; omega)) _)))
            have NP := Lib.hid (show ∀ q, v3.ownBlock = some q → q ≠ w2.heap.size from fun q hq => by
              rcases hq3 with h9 | h9
              · exact NQ.out q (h9.symm.trans hq)
              · rw [h9] at hq; injection hq with hq; simp at hq; omega)
            clear hown3 hg3 hq3
            go_roundg (n - (k + 1))
            case measure => omega
            case rel => exact ⟨k + 1, by omega, by omega, by go_num, by rw [HL.out]; exact IP.out, RP.out, NP.out⟩
          · have hkn : k = n := by omega
            have HE := Lib.hid (show Bfs t s (L ++ someNext t (xs, m) k) (i + 1) from by rw [hkn, HSA.out]; exact HB.out)
            have hll : i + 1 ≤ (L ++ someNext t (xs, m) k).length := by rw [List.length_append]; omega
            have hl0 : 0 < (L ++ someNext t (xs, m) k).length := by rw [List.length_append]; omega
            clear hkn
            go_wp2_with fail
            go_roundg (M - (i + 1))
            case measure => omega
            case rel => exact ⟨_, i + 1, hll, hl0, by omega, by go_num, HE.out, IQ.out⟩
    · obtain rfl : i = L.length := by omega
      have HP := Lib.hid BF.out.done
      have HV := Lib.hid (vs_own I.out.own hL0)
      have HO := Lib.hid (own_low I.out.own)
      go_wp2
      go_ret
      exact ⟨_, _, rfl, HV.out, HP.out, fun q hq => by have := HO.out q hq; omega, I.out.b⟩

end Go.Proofs.Ytndhhofidkaomaa

/- The laws' sample tree: its cells, its fault. No condition. -/

set_option linter.all false
namespace Go.Proofs.Ytndhhofidkaomaa
open Go.RowKit

def bsA : ByteArray := ⟨#[97]⟩
def bsF : ByteArray := ⟨#[102]⟩
/-- A directory, a directory in it, a file of three bytes in that. -/
def sampleT : Tr := [⟨1, 0, [⟨bsA, 1⟩], 0, [], [], 0, 0⟩, ⟨1, 0, [⟨bsF, 2⟩], 0, [], [], 0, 0⟩, ⟨2, 0, [], 3, [], [], 0, 0⟩]
theorem valT_sample : valT sampleT = (0, 0) := by decide +kernel
theorem DEs.one {w : World} {B b : Nat} {x : ByteArray} {i : Int} (hb : b < B) (h0 : w.cell? ⟨b, 0, none⟩ = some (.string x)) (h1 : w.cell? ⟨b, 1, none⟩ = some (.int .i64 i)) (hx : x.size ≤ maxLen) (hi : i64 i) : DEs w B (.slice (some ⟨b, 0, none⟩) 1 1) [⟨x, i⟩] := by
  refine ⟨_, 1, rfl, Nat.le_refl _, by simp, fun e he => ?_, fun _ => ⟨b, 0, rfl, hb, fun j hj => ?_⟩⟩
  · rw [List.mem_singleton] at he; subst he; exact ⟨hx, hi⟩
  · obtain rfl : j = 0 := by simp at hj; omega
    exact ⟨h0, h1⟩

theorem new_cell {w : World} {cs : Array Value} {t : TypeId} {r : Nat × Nat} {n j : Nat} {v : Value} (hn : n = w.heap.size) (h : cs[j]? = some v) : (w.alloc (.cells cs t r)).cell? ⟨n, j, none⟩ = some v := by
  subst hn; rw [cell_of_row _ _ _ _ t r (heap_alloc_new w _)]; exact h
set_option maxRecDepth 100000 in
set_option maxHeartbeats 1600000 in
theorem sample_any (w : World) :
    Calls Try.prog 13 #[] w fun e w' => ∃ b, e = .returned (.agg #[.slice (some ⟨b, 0, none⟩) sampleT.length 3]) ∧ Nods w' w'.heap.size (some ⟨b, 0, none⟩) 3 sampleT ∧ Below w.heap.size w w' := by
  have hcv : (convert 43 43 (.slice (some ⟨w.heap.size + 1 + 1 + 1, 0, none⟩) 3 3)).run Try.prog ((((w.alloc (.cells #[.slice none 0 0] 24)).alloc (.cells #[.string ⟨#[97]⟩, .int .i64 1] 49)).alloc (.cells #[.string ⟨#[102]⟩, .int .i64 2] 49)).alloc (.cells #[.int .u8 120, .int .u8 121, .int .u8 122] 5)) = .ok (.slice (some ⟨w.heap.size + 1 + 1 + 1, 0, none⟩) 3 3) ((((w.alloc (.cells #[.slice none 0 0] 24)).alloc (.cells #[.string ⟨#[97]⟩, .int .i64 1] 49)).alloc (.cells #[.string ⟨#[102]⟩, .int .i64 2] 49)).alloc (.cells #[.int .u8 120, .int .u8 121, .int .u8 122] 5 (3, 4))) := by
    have := Lib.run_convert_bytes_const (P := Try.prog) (((w.alloc (.cells #[.slice none 0 0] 24)).alloc (.cells #[.string ⟨#[97]⟩, .int .i64 1] 49)).alloc (.cells #[.string ⟨#[102]⟩, .int .i64 2] 49)) 43 5 #[.int .u8 120, .int .u8 121, .int .u8 122] 3 3 Try.underlying43 Try.underlying5
    rw [show (((w.alloc (.cells #[.slice none 0 0] 24)).alloc (.cells #[.string ⟨#[97]⟩, .int .i64 1] 49)).alloc (.cells #[.string ⟨#[102]⟩, .int .i64 2] 49)).heap.size = w.heap.size + 1 + 1 + 1 from by simp] at this
    exact this
  go_enter Try.func13, Try.ntmps13
  go_wp2
  refine bodyPost_ret (v := .agg #[.slice (some ⟨w.heap.size + 1 + 1 + 1 + 1, 0, none⟩) 3 3]) (by simp [results, Try.results13, go_sem]) rfl ⟨_, rfl, ⟨by decide, by decide, fun _ => ⟨_, 0, rfl, by simp, fun j hj => ?_⟩⟩, by repeat (first | exact Below.refl _ _ | refine Below.setCell ?_ (by first | omega | (simp; done) | (simp; omega)) _ | refine Below.alloc ?_ (by first | omega | (simp; done) | (simp; omega)) _)⟩
  have hj3 : j < 3 := hj
  match j, hj3 with
  | 0, _ =>
    exact ⟨.slice (some ⟨w.heap.size + 1, 0, none⟩) 1 1, .slice none 0 0, .slice none 0 0, .slice none 0 0, ⟨new_cell (by simp) rfl, new_cell (by simp) rfl, new_cell (by simp) rfl, new_cell (by simp) rfl, new_cell (by simp) rfl, new_cell (by simp) rfl, new_cell (by simp) rfl, new_cell (by simp) rfl⟩, ⟨DEs.one (by first | (simp; done) | (simp; omega)) (cell_al (cell_al (cell_al (new_cell (by simp) rfl) _) _) _) (cell_al (cell_al (cell_al (new_cell (by simp) rfl) _) _) _) (by decide) (by unfold i64; decide), ⟨none, 0, rfl, by simp [nod, sampleT]⟩, by simp [nod, sampleT], Acls.none_ _ _, Ats.none_ _ _, by unfold i64; decide, by unfold i64; decide, by unfold i64; decide, by unfold i64; decide⟩⟩
  | 1, _ =>
    exact ⟨.slice (some ⟨w.heap.size + 1 + 1, 0, none⟩) 1 1, .slice none 0 0, .slice none 0 0, .slice none 0 0, ⟨new_cell (by simp) rfl, new_cell (by simp) rfl, new_cell (by simp) rfl, new_cell (by simp) rfl, new_cell (by simp) rfl, new_cell (by simp) rfl, new_cell (by simp) rfl, new_cell (by simp) rfl⟩, ⟨DEs.one (by first | (simp; done) | (simp; omega)) (cell_al (cell_al (new_cell (by simp) rfl) _) _) (cell_al (cell_al (new_cell (by simp) rfl) _) _) (by decide) (by unfold i64; decide), ⟨none, 0, rfl, by simp [nod, sampleT]⟩, by simp [nod, sampleT], Acls.none_ _ _, Ats.none_ _ _, by unfold i64; decide, by unfold i64; decide, by unfold i64; decide, by unfold i64; decide⟩⟩
  | 2, _ =>
    exact ⟨.slice none 0 0, .slice (some ⟨w.heap.size + 1 + 1 + 1, 0, none⟩) 3 3, .slice none 0 0, .slice none 0 0, ⟨new_cell (by simp) rfl, new_cell (by simp) rfl, new_cell (by simp) rfl, new_cell (by simp) rfl, new_cell (by simp) rfl, new_cell (by simp) rfl, new_cell (by simp) rfl, new_cell (by simp) rfl⟩, ⟨DEs.none_ _ _, ⟨_, 3, rfl, by simp [nod, sampleT]⟩, by simp [nod, sampleT], Acls.none_ _ _, Ats.none_ _ _, by unfold i64; decide, by unfold i64; decide, by unfold i64; decide, by unfold i64; decide⟩⟩

end Go.Proofs.Ytndhhofidkaomaa

/- walk at any start and any function that it visits with. Conditions: as follow_any. -/

set_option linter.all false
namespace Go.Proofs.Ytndhhofidkaomaa
open Go.RowKit

theorem One.put {w : World} {n : Nat} {v : Value} (h : One w n v) (u : Value) : One (w.setCell ⟨n, 0, none⟩ u) n u :=
  ⟨by simpa using h.lt, World.cell?_setCell_same _ _ _ h.c0, by simpa using h.f0⟩

set_option maxRecDepth 100000 in
set_option maxHeartbeats 2000000 in
theorem walk_any {σ : Type} {t : Tr} {s0 : Nat} {g : FuncId} {caps : Array Value} {S : Nat → Prop} {H0 : Nat} {Inv : World → σ → Prop} {step : σ → Vis → σ} (V : Visitor t s0 g caps S H0 Inv step)
    (h1 : Ok1 t) (fr : From t s0) {Bt : Nat} (hBt : Bt ≤ H0) (hSB : ∀ b, S b → Bt ≤ b) (a : Option Addr) (c : Nat) (W : World) (s : σ) (hn : Nods W Bt a c t) (hH : H0 ≤ W.heap.size) (hI : Inv W s) :
    Calls Try.prog 48 #[.agg #[.slice a t.length c], .int .i64 (s0 : Int), .func (.func g) #[] caps] W fun e W' => e = .returned (.tuple #[]) ∧ Inv W' ((visits t s0).foldl step s) ∧ Kept S none W W' := by
  have eg := V.eg
  have eg2 : ∀ args w, (callFunc 59 args).run Try.prog w = .ok (.enter 59 args) w := enters_of Try.func59 (by kernel_rfl) rfl
  have HF := Lib.hid (fun base pt pv pf (L : Lay S H0 pt pv pf Bt base) => follow_any V h1 fr L a c [] s0 .nil)
  have LL := Lib.hid (show Lay S H0 W.heap.size (W.heap.size + 1) (W.heap.size + 1 + 1) Bt (W.heap.size + 3) from ⟨hBt, hSB, V.low, hH, by omega, by omega, by omega, by omega, by omega⟩)
  have HN := Lib.hid hn
  clear hn
  go_enter Try.func48, Try.ntmps48
  go_wp2_with fail
  have B3 := (((Below.refl W.heap.size W).alloc (Nat.le_refl _) (.cells #[.slice a t.length c] 24)).alloc (by first | omega | (simp; done) | (simp; omega)) (.cells #[.func (.func g) #[] caps] 77)).alloc (by first | omega | (simp; done) | (simp; omega)) (.cells #[.func (.func 59) #[] #[.pointer (some ⟨W.heap.size + 1, 0, none⟩), .pointer (some ⟨W.heap.size, 0, none⟩), .pointer (some ⟨W.heap.size + 1 + 1, 0, none⟩)]] 77)
  refine (HF.out _ _ _ _ LL.out _ s (.slice none 0 0) ⟨((One.new W _ _).alloc _).alloc _, ((One.new (W.alloc _) _ _).alloc _).at_ (by simp), (One.new ((W.alloc _).alloc _) _ _).at_ (by simp), HN.out.below (B3.mono (by omega))⟩ (by simp) (V.keep _ _ _ hI (B3.mono hH)) (World.ownsRow_nil _ _ _ _)).mono ?_
  rintro e W' ⟨rfl, G⟩
  have K : Kept S none W W' := (Kept.of_below B3).trans G.kept
  have I := G.inv
  clear G B3
  go_wp2
  go_end0
  exact ⟨rfl, I, K⟩

end Go.Proofs.Ytndhhofidkaomaa

/- Rows of ints and bools that a call makes, and what a check of package fstree returns. Conditions: as each theorem states. -/

set_option linter.all false
namespace Go.Proofs.Ytndhhofidkaomaa
open Go.RowKit

/-- Block R holds m values. -/
structure Row (w : World) (R m : Nat) (f : Nat → Value) : Prop where
  lt : R < w.heap.size
  c : ∀ j, j < m → w.cell? ⟨R, j, none⟩ = some (f j)
  fz : ∀ j, w.frozen? ⟨R, j, none⟩ = false
theorem Row.below {w w' : World} {B R m : Nat} {f : Nat → Value} (h : Row w R m f) (hb : Below B w w') (hR : R < B) : Row w' R m f :=
  ⟨Nat.lt_of_lt_of_le h.lt hb.size, fun j hj => (hb.cell (p := ⟨R, j, none⟩) hR).trans (h.c j hj), fun j => (hb.frozen (p := ⟨R, j, none⟩) hR).trans (h.fz j)⟩
theorem Row.alloc {w : World} {R m : Nat} {f : Nat → Value} (h : Row w R m f) (o : Obj) : Row (w.alloc o) R m f :=
  h.below ((Below.refl w.heap.size w).alloc (Nat.le_refl _) o) h.lt
theorem Row.far {w : World} {R m : Nat} {f : Nat → Value} (h : Row w R m f) {p : Addr} (hp : R ≠ p.block) (u : Value) : Row (w.setCell p u) R m f :=
  ⟨by simpa using h.lt, fun j hj => (World.cell?_setCell_other w p _ u (fun e => hp (by rw [e]))).trans (h.c j hj), fun j => by simpa using h.fz j⟩
theorem Row.put {w : World} {R m : Nat} {f : Nat → Value} (h : Row w R m f) {i : Nat} (hi : i < m) (u : Value) : Row (w.setCell ⟨R, i, none⟩ u) R m (fun j => if j = i then u else f j) := by
  refine ⟨by simpa using h.lt, fun j hj => ?_, fun j => by simpa using h.fz j⟩
  by_cases e : j = i
  · subst e
    rw [if_pos rfl]
    exact World.cell?_setCell_same _ _ _ (h.c j hj)
  · rw [if_neg e]
    exact (World.cell?_setCell_other w ⟨R, i, none⟩ ⟨R, j, none⟩ u (fun h => by injection h with _ h2 _; exact e h2.symm)).trans (h.c j hj)
theorem Row.ext {w : World} {R m : Nat} {f g : Nat → Value} (h : Row w R m f) (e : ∀ j, j < m → f j = g j) : Row w R m g :=
  ⟨h.lt, fun j hj => by rw [← e j hj]; exact h.c j hj, h.fz⟩
theorem Row.at_ {w : World} {R R' m : Nat} {f : Nat → Value} (h : Row w R m f) (e : R = R') : Row w R' m f := e ▸ h
theorem row_new (w : World) (n : Nat) (z : Value) (t : TypeId) : Row (w.alloc (.cells (madeCells #[z] n) t)) w.heap.size n (fun _ => z) := by
  refine ⟨by simp, fun j hj => ?_, fun j => by simp⟩
  rw [World.cell?_alloc_new]
  simp [madeCells, hj, Nat.mod_one]

theorem int_info : (Try.prog.info? 3).map (fun i => (i.zero, i.size, i.bytes)) = some (some (.int .i64 0), 1, 8) := by kernel_rfl
theorem bool_info : (Try.prog.info? 4).map (fun i => (i.zero, i.size, i.bytes)) = some (some (.bool false), 1, 1) := by kernel_rfl
theorem make_ints (n : Nat) (hn : n ≤ 40) (w : World) : (Instr.makeSlice 25 (.int .i64 (n : Int)) (.int .i64 (n : Int))).run Try.prog w = .ok (.slice (some ⟨w.heap.size, 0, none⟩) n n) (w.alloc (.cells (madeCells #[.int .i64 0] n) 3)) := by
  obtain ⟨i0, hi, hz0, hz1, hz2⟩ := info_parts int_info
  have hr := run_make (P := Try.prog) w 25 3 i0 _ Try.underlying25 hi hz0 .i64 .i64 n n (by omega) (by omega) (by rw [hz2]; omega) (by omega)
  simp only [Int.toNat_natCast, hz1, Nat.mul_one] at hr
  exact hr
theorem make_bools (n : Nat) (hn : n ≤ 40) (w : World) : (Instr.makeSlice 51 (.int .i64 (n : Int)) (.int .i64 (n : Int))).run Try.prog w = .ok (.slice (some ⟨w.heap.size, 0, none⟩) n n) (w.alloc (.cells (madeCells #[.bool false] n) 4)) := by
  obtain ⟨i0, hi, hz0, hz1, hz2⟩ := info_parts bool_info
  have hr := run_make (P := Try.prog) w 51 4 i0 _ Try.underlying51 hi hz0 .i64 .i64 n n (by omega) (by omega) (by rw [hz2]; omega) (by omega)
  simp only [Int.toNat_natCast, hz1, Nat.mul_one] at hr
  exact hr

/-- What a check returns: a function that returns the code of each inode. -/
def CheckPost (t : Tr) (k : Nat) (w : World) (e : Ending) (w' : World) : Prop :=
  ∃ g caps, e = .returned (.func (.func g) #[] caps) ∧ Below w.heap.size w w' ∧ (∀ args w, (callFunc g args).run Try.prog w = .ok (.enter g args) w) ∧
    ∀ W, Below w'.heap.size w' W → ∀ n, n < t.length → Calls Try.prog g (#[.int .i64 (n : Int)] ++ caps) W fun e W' => e = .returned (.int .i64 (codeK t k n)) ∧ Below W.heap.size W W'

theorem eg_field1 : ∀ args w, (callFunc 40 args).run Try.prog w = .ok (.enter 40 args) w := enters_of Try.func40 (by kernel_rfl) rfl
set_option maxRecDepth 100000 in
set_option maxHeartbeats 400000 in
theorem fieldCheck_any (a : Option Addr) (c : Nat) (t : Tr) (w : World) (h : Nods w w.heap.size a c t) :
    Calls Try.prog 31 #[.agg #[.slice a t.length c]] w (CheckPost t 0 w) := by
  have H := Lib.hid h
  clear h
  go_enter Try.func31, Try.ntmps31
  go_wp2
  go_ret
  refine ⟨_, _, rfl, (Below.refl _ _).alloc (Nat.le_refl _) _, eg_field1, fun W hW n hn => ?_⟩
  have hb : Below w.heap.size w W := ((Below.refl _ _).alloc (Nat.le_refl _) _).trans (hW.mono (by simp))
  exact fieldCheck1_any a c t n w.heap.size W (H.out.up hb) ((One.new w _ _).below hW (by simp)) hn

end Go.Proofs.Ytndhhofidkaomaa

/- Rows of entries, attributes and access control entries as lists of cells; an append of any list to a row that a call owns. Conditions: as each theorem states. -/

set_option linter.all false
namespace Go.Proofs.Ytndhhofidkaomaa
open Go.RowKit

def DE.cellsQ (e : DE) : List Value := [.string e.n, .int .i64 e.i]
def flatQ (es : List DE) : List Value := es.flatMap DE.cellsQ
theorem flatQ_cons (e : DE) (es : List DE) : flatQ (e :: es) = .string e.n :: .int .i64 e.i :: flatQ es := by
  unfold flatQ DE.cellsQ; rw [List.flatMap_cons]; rfl
theorem flatQ_append (xs ys : List DE) : flatQ (xs ++ ys) = flatQ xs ++ flatQ ys := by unfold flatQ; rw [List.flatMap_append]
theorem flatQ_len : ∀ es : List DE, (flatQ es).length = es.length * 2
  | [] => rfl
  | e :: es => by rw [flatQ_cons]; simp only [List.length_cons]; rw [flatQ_len es]; omega
theorem flatQ_one : ∀ (es : List DE), ∀ u ∈ flatQ es, u.oneCell' = true
  | [], u, h => by simp [flatQ] at h
  | e :: es, u, h => by
    rw [flatQ_cons] at h
    rcases List.mem_cons.1 h with rfl | h
    · rfl
    · rcases List.mem_cons.1 h with rfl | h
      · rfl
      · exact flatQ_one es u h
theorem flatQ_get : ∀ (es : List DE) (j : Nat), j < es.length →
    (flatQ es)[j * 2]? = some (.string (es.getD j D0).n) ∧ (flatQ es)[j * 2 + 1]? = some (.int .i64 (es.getD j D0).i)
  | [], j, h => absurd h (by simp)
  | e :: es, 0, _ => by rw [flatQ_cons]; simp
  | e :: es, j + 1, h => by
    have ih := flatQ_get es j (by simpa using h)
    have e1 : (j + 1) * 2 = j * 2 + 1 + 1 := by omega
    rw [flatQ_cons, e1]
    simpa using ih
theorem add_plainQ (b o j : Nat) : (⟨b, o, none⟩ : Addr).add j = ⟨b, o + j, none⟩ := by unfold Addr.add; split <;> simp_all
theorem DEs.newsQ {w : World} {B n c : Nat} {a : Option Addr} {es : List DE} (h : DEs w B (.slice a n c) es) : (a = none → n = 0) ∧ n = es.length ∧ ∀ ad, a = some ad → ∀ j u, (flatQ es)[j]? = some u → w.cell? (ad.add j) = some u := by
  obtain ⟨a', c', hv, hc, hl, hf, hx⟩ := h
  injection hv with h1 h2 h3
  subst h1 h2 h3
  refine ⟨fun e => ?_, rfl, fun ad e j u hu => ?_⟩
  · rcases Nat.eq_zero_or_pos es.length with h0 | h0
    · exact h0
    · obtain ⟨b, o, ha, _⟩ := hx h0; rw [e] at ha; cases ha
  · have hj := (List.getElem?_eq_some_iff.1 hu).1
    rw [flatQ_len] at hj
    obtain ⟨b, o, ha, _, hj2⟩ := hx (by omega)
    rw [e] at ha
    injection ha with ha
    subst ha
    rw [add_plainQ]
    obtain ⟨q, hq, hr⟩ : ∃ q, q < es.length ∧ (j = q * 2 ∨ j = q * 2 + 1) := ⟨j / 2, by omega, by omega⟩
    obtain ⟨h1, h2⟩ := flatQ_get es q hq
    obtain ⟨g1, g2⟩ := hj2 q hq
    rcases hr with rfl | rfl
    · rw [h1] at hu; injection hu with hu; subst hu; exact g1
    · rw [h2] at hu; injection hu with hu; subst hu; exact g2
theorem Ats.newsQ {w : World} {B n c : Nat} {a : Option Addr} {es : List Attr} (h : Ats w B (.slice a n c) es) : (a = none → n = 0) ∧ n = es.length ∧ ∀ ad, a = some ad → ∀ j u, (flatA es)[j]? = some u → w.cell? (ad.add j) = some u := by
  obtain ⟨a', c', hv, hc, hl, hf, hx⟩ := h
  injection hv with h1 h2 h3
  subst h1 h2 h3
  refine ⟨fun e => ?_, rfl, fun ad e j u hu => ?_⟩
  · rcases Nat.eq_zero_or_pos es.length with h0 | h0
    · exact h0
    · obtain ⟨b, o, ha, _⟩ := hx h0; rw [e] at ha; cases ha
  · have hj := (List.getElem?_eq_some_iff.1 hu).1
    rw [flatA_len] at hj
    obtain ⟨b, o, ha, _, hj2⟩ := hx (by omega)
    rw [e] at ha
    injection ha with ha
    subst ha
    rw [add_plainQ]
    obtain ⟨q, hq, hr⟩ : ∃ q, q < es.length ∧ (j = q * 2 ∨ j = q * 2 + 1) := ⟨j / 2, by omega, by omega⟩
    obtain ⟨h1, h2⟩ := flatA_get es q hq
    obtain ⟨g1, g2⟩ := hj2 q hq
    rcases hr with rfl | rfl
    · rw [h1] at hu; injection hu with hu; subst hu; exact g1
    · rw [h2] at hu; injection hu with hu; subst hu; exact g2
theorem Acls.newsQ {w : World} {B n c : Nat} {a : Option Addr} {es : List Ent} (h : Acls w B (.slice a n c) es) : (a = none → n = 0) ∧ n = es.length ∧ ∀ ad, a = some ad → ∀ j u, (flatE es)[j]? = some u → w.cell? (ad.add j) = some u := by
  obtain ⟨a', c', hv, hc, hl, hf, hx⟩ := h
  injection hv with h1 h2 h3
  subst h1 h2 h3
  refine ⟨fun e => ?_, rfl, fun ad e j u hu => ?_⟩
  · rcases Nat.eq_zero_or_pos es.length with h0 | h0
    · exact h0
    · obtain ⟨b, o, ha, _⟩ := hx h0; rw [e] at ha; cases ha
  · have hj := (List.getElem?_eq_some_iff.1 hu).1
    rw [flatE_len] at hj
    obtain ⟨b, o, ha, _, hj2⟩ := hx (by omega)
    rw [e] at ha
    injection ha with ha
    subst ha
    rw [add_plainQ]
    obtain ⟨q, hq, hr⟩ : ∃ q, q < es.length ∧ (j = q * 3 ∨ j = q * 3 + 1 ∨ j = q * 3 + 2) := ⟨j / 3, by omega, by omega⟩
    obtain ⟨h1, h2, h3⟩ := flatE_get es q hq
    obtain ⟨g1, g2, g3⟩ := hj2 q hq
    rcases hr with rfl | rfl | rfl
    · rw [h1] at hu; injection hu with hu; subst hu; exact g1
    · rw [h2] at hu; injection hu with hu; subst hu; exact g2
    · rw [h3] at hu; injection hu with hu; subst hu; exact g3
theorem des_ownQ {w : World} {base n : Nat} {v : Value} {es : List DE} (h : w.ownsRow base 49 2 v n (flatQ es)) (hf : ∀ e ∈ es, e.fits) (hl : es.length ≤ 35184372088832) : DEs w w.heap.size v es := by
  have hn : n = es.length := by have := h.1; rw [flatQ_len] at this; omega
  subst hn
  rcases h.2 with ⟨hv, h0⟩ | ⟨g, cap, cur, hv, _, hg, hnc, _, _, _⟩
  · have : es = [] := List.eq_nil_of_length_eq_zero h0
    subst this
    rw [hv]; exact DEs.none_ _ _
  · rw [hv] at h
    refine ⟨_, cap, hv, hnc, hl, hf, fun _ => ⟨g, 0, rfl, (Array.getElem?_eq_some_iff.1 hg).1, fun j hj => ?_⟩⟩
    obtain ⟨h1, h2⟩ := flatQ_get es j hj
    rw [← h.cellAt (j * 2) (by omega)] at h1
    rw [← h.cellAt (j * 2 + 1) (by omega)] at h2
    simp only [Nat.zero_add]
    exact ⟨h1, h2⟩
theorem own_setQ {w : World} {base size n : Nat} {e : TypeId} {v : Value} {xs : List Value} (h : w.ownsRow base e size v n xs) {p : Addr} (hp : p.block < base) (u : Value) : (w.setCell p u).ownsRow base e size v n xs := ownsRow_setCell_below h hp u
theorem own_shapeQ {w : World} {base size n : Nat} {e : TypeId} {v : Value} {xs : List Value} (h : w.ownsRow base e size v n xs) : ∃ a c, v = .slice a n c ∧ n ≤ c := by
  rcases h.2 with ⟨rfl, rfl⟩ | ⟨g, cap, cur, rfl, _, _, hc, _⟩
  · exact ⟨_, _, rfl, Nat.le_refl _⟩
  · exact ⟨_, _, rfl, hc⟩
theorem own_apartQ {w : World} {base base' n m s s' : Nat} {e e' : TypeId} {v u : Value} {xs ys : List Value} (h : w.ownsRow base e s v n xs) (h' : w.ownsRow base' e' s' u m ys) (he : e ≠ e') {g : Nat} (hv : v.ownBlock = some g) : u.ownBlock ≠ some g := by
  intro hu
  rcases h.2 with ⟨rfl, _⟩ | ⟨g1, c1, cur1, rfl, _, hg1, _⟩
  · cases hv
  · rcases h'.2 with ⟨rfl, _⟩ | ⟨g2, c2, cur2, rfl, _, hg2, _⟩
    · cases hu
    · have e1 : g1 = g := by simpa [Value.ownBlock] using hv
      have e2 : g2 = g := by simpa [Value.ownBlock] using hu
      rw [e1] at hg1
      rw [e2, hg1] at hg2
      injection hg2 with hg2
      injection hg2 with _ h3
      exact he h3
theorem own_keptQ {w w' : World} {base n size : Nat} {e : TypeId} {v : Value} {xs : List Value} {row : Option Nat} (h : w.ownsRow base e size v n xs) (hg : w.grownBy w' row) (hne : ∀ g, row = some g → v.ownBlock ≠ some g) : w'.ownsRow base e size v n xs :=
  h.kept hg (by
    cases hv : v.ownBlock with
    | none => exact .inl rfl
    | some g => exact .inr (fun e => hne g e.symm hv))

set_option maxRecDepth 100000 in
/-- append(s, x...): s a row of the call's own (or nil), x any list of cells, nil too. -/
theorem wpList_append_news {w : World} {ops : Array Oper} {rest : List Oper} {o : Oper} {a : Act} {Q : Exit → Act → World → Prop} (hgd : o.guard = none) (s x : Operand) (tl te : TypeId)
    (ho : o.op = .call { callee := .builtin .append, args := #[s, x], argTypes := #[tl, tl] }) (hu : Try.prog.underlying tl = some (.slice te)) (i : TypeInfo) (z : Value) (sz bt : Nat) (hi : Try.prog.info? te = some i) (hz : i.zero = some z) (hsz : i.size = sz) (hbt : i.bytes = bt) (hzs : z.cells.size = sz) (h0 : 0 < sz)
    (base : Nat) (v : Value) (n : Nat) (xs : List Value) (hs : a.eval s = v) (hown : w.ownsRow base te sz v n xs)
    (ad : Option Addr) (m c : Nat) (news : List Value) (hx : a.eval x = .slice ad m c) (hn : ad = none → m = 0) (hl : news.length = m * sz) (hc : ∀ g, ad = some g → ∀ j u, news[j]? = some u → w.cell? (g.add j) = some u) (h1 : ∀ u ∈ news, u.oneCell' = true)
    (h63 : n + m ≤ maxLen) (hbytes : (n + m) * bt ≤ 140737488355328) (hbase : base ≤ w.heap.size)
    (h : ∀ v' w', w'.ownsRow base te sz v' (n + m) (xs ++ news) → w.grownBy w' v.ownBlock → wpList Try.prog ops Q rest (a.put o.dst v') w') : wpList Try.prog ops Q (o :: rest) a w := by
  cases ad with
  | none =>
    obtain rfl := hn rfl
    obtain rfl : news = [] := List.eq_nil_of_length_eq_zero (by omega)
    refine wpList_plain hgd fun K hK => ?_
    have hrun : (Builtin.append_ #[tl, tl] o.type #[v, .slice none 0 c]).run Try.prog w = .ok v w := by
      rcases hown.2 with ⟨rfl, _⟩ | ⟨g, cap, cur, rfl, _, _, hnc, _⟩
      · simp [Builtin.append_, run_underlying hu, sizeOf, typeInfo, hi, Builtin.lenOf, Builtin.firstCells]
      · simp [Builtin.append_, run_underlying hu, sizeOf, typeInfo, hi, Builtin.lenOf, Builtin.firstCells, hnc, storeCells]
    unfold Oper.wp
    simp [execOp, ho, resolve, invoke, builtin, hs, hx, hrun, Result.andThen]
    exact hK _ _ (h v w (by simpa using hown) (World.grownBy.refl w _))
  | some ad =>
    exact wpList_append_own w hgd s x tl ho base te i z sz bt hu hi hz hsz hbt hzs h0 v n xs hs hown ad m c news hx hl (hc ad rfl) h1 h63 hbytes hbase fun v' w' h1 h2 _ => h v' w' h1 h2

end Go.Proofs.Ytndhhofidkaomaa
