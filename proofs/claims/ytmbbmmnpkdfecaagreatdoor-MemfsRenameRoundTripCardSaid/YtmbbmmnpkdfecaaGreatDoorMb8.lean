/- Package memfs and what it calls, at this seat's translation.
   Condition: as each theorem states; this text: MfPlain, FsEnts, FsCont, MfClone, MfShape, MfReq, FsWalk, FsField, MfTree, FsWalk2, MfArg. -/
import Derived.Test.YtmbbmmnpkdfecaaGreatDoorMb7
import Derived.Test.YtmbbmmnpkdfecaaGreatDoorMb4
import Derived.Laws.AppendOwn
import Derived.Laws.AppendOwnNone
import Derived.Laws.OwnMore
import Derived.OwnWalk
import Derived.Lib.SliceRun
import Derived.Deep.LoopGhost
import Derived.Test.YtmbbmmnpkdfecaaGreatDoorMb5
import Derived.BigQuiet
import Derived.Deep.RegionHeld3
import Derived.Laws.EntriesVeiled

set_option linter.all false

/- Plain words on trees: what a valid inode and a valid tree are, one property after the other; what the fault of a tree is whose structure is valid. No program. -/

set_option linter.all false
namespace Go.Proofs.YtmbbmmnpkdfecaaGreatDoor
open Go.RowKit

/-! ## A valid inode -/
/-- An inode that is valid by itself, with what may be referred to. -/
structure NOk (U : Int → Bool) (x : Nod) : Prop where
  free : x.k = 0 → x.es = [] ∧ x.dl = 0 ∧ x.ac = [] ∧ x.xs = [] ∧ x.o = 0 ∧ x.q = 0 ∧ x.v = 0
  kind : x.k = 0 ∨ x.k = 1 ∨ x.k = 2
  o0 : 0 ≤ x.o
  o7 : x.o ≤ 7
  v0 : 0 ≤ x.v
  v1 : x.v ≤ 1000000
  q0 : 0 ≤ x.q
  q1 : x.q ≤ 100000
  dir : x.k = 1 → x.dl = 0
  file : x.k ≠ 1 → x.es = [] ∧ x.q = 0
  dl : x.dl ≤ 200
  ac : (valF x.ac).1 = 0
  xs : (valA x.xs).1 = 0
  len : x.es.length ≤ 16
  ent : ∀ e ∈ x.es, vname e.n = true ∧ e.i ≠ 0 ∧ U e.i = true
  srt : x.es.Pairwise (fun a b => ltS a.n b.n = true)
theorem codeDs_of (t : Tr) : ∀ (es : List DE) (p : ByteArray), (∀ e ∈ es, vname e.n = true ∧ e.i ≠ 0 ∧ used t e.i = true) → (∀ e ∈ es, ltS p e.n = true) → es.Pairwise (fun a b => ltS a.n b.n = true) → codeDs t p es = 0
  | [], _, _, _, _ => rfl
  | e :: r, p, h1, h2, h3 => by
    rw [List.pairwise_cons] at h3
    obtain ⟨a1, a2, a3⟩ := h1 e (by simp)
    have hc : codeD t p e = 0 := by
      unfold codeD
      rw [if_neg (by rw [a1]; simp), if_neg (by rw [h2 e (by simp)]; simp), if_neg (by rintro (h | h); exact a2 h; rw [a3] at h; cases h)]
    unfold codeDs
    rw [if_pos hc]
    exact codeDs_of t r e.n (fun x hx => h1 x (by simp [hx])) (fun x hx => h3.1 x hx) h3.2
theorem vname_ne {s : ByteArray} (h : vname s = true) : s ≠ ByteArray.empty := by
  intro e
  have := (vname_size h).1
  rw [e] at this
  simp at this
theorem nok_of {t : Tr} {x : Nod} (h : codeN t x = 0) : NOk (used t) x := by
  have hf := fine_of h
  unfold codeN at h
  split at h
  · rename_i hk
    unfold codeF at h
    split at h
    · rename_i h0
      obtain ⟨h1, h2, h3, h4⟩ := h0
      have e1 : x.es = [] := List.eq_nil_of_length_eq_zero (by omega)
      have e2 : x.ac = [] := List.eq_nil_of_length_eq_zero (by omega)
      have e3 : x.xs = [] := List.eq_nil_of_length_eq_zero (by omega)
      have e4 : x.dl = 0 := by omega
      refine ⟨fun _ => ⟨e1, e4, e2, e3, h2, h3, h4⟩, .inl hk, by omega, by omega, by omega, by omega, by omega, by omega, fun _ => e4, fun _ => ⟨e1, h3⟩, by omega, ?_, ?_, by rw [e1]; simp, by rw [e1]; simp, by rw [e1]; simp⟩
      · rw [e2]; rfl
      · rw [e3]; rfl
    · cases h
  · split at h
    · rename_i hk0 hk
      obtain ⟨hc, ha, hx, hE⟩ := or4_zero h
      unfold codeC at hc
      split at hc
      · cases hc
      · rename_i h1
        split at hc
        · cases hc
        · rename_i h2
          split at hc
          · cases hc
          · rename_i h3
            have h1' : (0 ≤ x.o ∧ x.o ≤ 7) ∧ (0 ≤ x.v ∧ x.v ≤ 1000000) ∧ (0 ≤ x.q ∧ x.q ≤ 100000) := by
              refine ⟨?_, ?_, ?_⟩
              · exact Classical.byContradiction fun hh => h1 (.inl hh)
              · exact Classical.byContradiction fun hh => h1 (.inr (.inl hh))
              · exact Classical.byContradiction fun hh => h1 (.inr (.inr hh))
            obtain ⟨⟨a1, a2⟩, ⟨a3, a4⟩, a5, a6⟩ := h1'
            refine ⟨fun h => absurd h hk0, .inr hk, a1, a2, a3, a4, a5, a6, fun hd => ?_, hf.dir, hf.dl, ha, hx, hf.len, hf.ent, hf.srt⟩
            rcases Nat.eq_zero_or_pos x.dl with h9 | h9
            · exact h9
            · exact absurd (.inl ⟨hd, h9⟩) h2
    · cases h
theorem code_of {t : Tr} {x : Nod} (h : NOk (used t) x) : codeN t x = 0 := by
  unfold codeN
  split
  · rename_i hk
    obtain ⟨h1, h2, h3, h4, h5, h6, h7⟩ := h.free hk
    unfold codeF
    rw [if_pos]
    rw [h1, h2, h3, h4]
    exact ⟨rfl, h5, h6, h7⟩
  · rename_i hk
    have hk2 : x.k = 1 ∨ x.k = 2 := by rcases h.kind with h9 | h9 | h9; exact absurd h9 hk; exact .inl h9; exact .inr h9
    rw [if_pos hk2]
    have c1 : codeC x = 0 := by
      unfold codeC
      rw [if_neg, if_neg, if_neg]
      · have := h.dl; omega
      · rintro (⟨h1, h2⟩ | ⟨h1, h2⟩)
        · have := h.dir h1; omega
        · obtain ⟨h3, h4⟩ := h.file h1
          rw [h3, h4] at h2
          simp at h2
      · have h1 := h.o0; have h2 := h.o7; have h3 := h.v0; have h4 := h.v1; have h5 := h.q0; have h6 := h.q1
        rintro (hh | hh | hh)
        · exact hh ⟨h1, h2⟩
        · exact hh ⟨h3, h4⟩
        · exact hh ⟨h5, h6⟩
    have c2 : codeEs t x.es = 0 := by
      unfold codeEs
      have := h.len
      rw [if_neg (by omega)]
      refine codeDs_of t _ _ h.ent (fun e he => ?_) h.srt
      rw [ltS_empty]
      exact decide_eq_true (vname_ne (h.ent e he).1)
    unfold or4
    rw [c1, c2, h.ac, h.xs]
    simp

/-! ## A valid tree -/
/-- A tree whose structure is valid. -/
structure Sv (t : Tr) : Prop where
  ne : 0 < t.length
  le : t.length ≤ 40
  root : (nod t 0).k = 1
  ok : ∀ n, n < t.length → NOk (used t) (nod t n)
  one : ∀ n, n < t.length → (nod t n).k = 1 → n ≠ 0 → refs t n = 1
  some : ∀ n, n < t.length → (nod t n).k = 2 → refs t n ≠ 0
  rch : ∀ n, n < t.length → (nod t n).k ≠ 0 → ∃ xs, Rch t 0 xs n
def Far (t : Tr) : Prop := ∃ xs n, Rch t 0 xs n ∧ tooFar xs = true
def Over (t : Tr) : Prop := ∃ n, n < t.length ∧ (nod t n).q ≠ 0 ∧ (nod t n).q < (usg t (visits t n) : Int)
/-- A valid tree. -/
structure Vd (t : Tr) : Prop extends Sv t where
  near : ¬ Far t
  fits : ¬ Over t
theorem Sv.ok1 {t : Tr} (h : Sv t) : Ok1 t := ⟨h.ne, h.le, h.root, fun n hn => code_of (h.ok n hn)⟩
theorem Sv.lk {t : Tr} (h : Sv t) {n : Nat} (hn : n < t.length) : codeLk t n = 0 := by
  unfold codeLk
  rw [if_neg]
  rintro (⟨h1, h2, h3⟩ | ⟨h1, h2⟩)
  · exact h3 (h.one n hn h1 h2)
  · exact h.some n hn h1 h2
theorem Sv.ok2 {t : Tr} (h : Sv t) : Ok2 t := ⟨h.ok1, fun _ hn => h.lk hn⟩
theorem Sv.node {t : Tr} (h : Sv t) (n : Nat) : NOk (used t) (nod t n) := by
  rcases Nat.lt_or_ge n t.length with hl | hl
  · exact h.ok n hl
  · rw [nod_past hl]
    exact ⟨fun _ => ⟨rfl, rfl, rfl, rfl, rfl, rfl, rfl⟩, .inl rfl, by simp, by simp, by simp, by simp, by simp, by simp, fun h => (by cases h), fun _ => ⟨rfl, rfl⟩, by simp, rfl, rfl, by simp, by simp, by simp⟩
theorem Sv.from_ {t : Tr} (h : Sv t) {n : Nat} (hn : n < t.length) (hk : (nod t n).k ≠ 0) : From t n := by
  obtain ⟨xs, hx⟩ := h.rch n hn hk
  exact h.ok2.from_ hx
theorem Sv.has {t : Tr} (h : Sv t) {n : Nat} : hasL (visits t 0) n = true ↔ ∃ xs, Rch t 0 xs n := by
  rw [hasL_iff]
  constructor
  · rintro ⟨xs, hx⟩; exact ⟨xs, (mem_visits h.ok2.fin).1 hx⟩
  · rintro ⟨xs, hx⟩; exact ⟨xs, (mem_visits h.ok2.fin).2 hx⟩
theorem far_iff {t : Tr} (h : Ok2 t) {n : Nat} : farL (visits t 0) n = true ↔ ∃ xs, Rch t 0 xs n ∧ tooFar xs = true := by
  unfold farL
  rw [List.any_eq_true]
  constructor
  · rintro ⟨⟨xs, m⟩, hx, hm⟩
    simp only [Bool.and_eq_true, decide_eq_true_eq] at hm
    obtain ⟨rfl, hf⟩ := hm
    exact ⟨xs, (mem_visits h.fin).1 hx, hf⟩
  · rintro ⟨xs, hx, hf⟩
    exact ⟨(xs, n), (mem_visits h.fin).2 hx, by simp [hf]⟩
theorem Sv.codeP0 {t : Tr} (h : Sv t) {n : Nat} (hn : n < t.length) : codeP t n = if farL (visits t 0) n = true then 10 else 0 := by
  unfold codeP
  rw [if_neg]
  rintro ⟨h1, h2⟩
  have := h.has.2 (h.rch n hn h1)
  rw [h2] at this; cases this
theorem Sv.head {t : Tr} (h : Sv t) : Head t := ⟨h.ne, h.le, h.root⟩
theorem Sv.pass2 {t : Tr} (h : Sv t) : Pass t 2 := by
  intro j hj n hn
  match j, hj with
  | 0, _ => exact code_of (h.ok n hn)
  | 1, _ => exact h.lk hn
/-- The first inode of a list of inodes that a test finds. -/
theorem first_of (p : Nat → Prop) : ∀ m, (∃ n, n < m ∧ p n) → ∃ n, n < m ∧ p n ∧ ∀ j, j < n → ¬ p j
  | 0, h => by obtain ⟨n, hn, _⟩ := h; omega
  | m + 1, h => by
    by_cases hh : ∃ n, n < m ∧ p n
    · obtain ⟨n, h1, h2, h3⟩ := first_of p m hh
      exact ⟨n, by omega, h2, h3⟩
    · obtain ⟨n, h1, h2⟩ := h
      have : n = m := by
        rcases Nat.lt_or_ge n m with hl | hl
        · exact absurd ⟨n, hl, h2⟩ hh
        · omega
      subst this
      exact ⟨n, by omega, h2, fun j hj hp => hh ⟨j, hj, hp⟩⟩
theorem Sv.val_far {t : Tr} (h : Sv t) (hf : Far t) : (valT t).1 = 10 := by
  obtain ⟨xs, n, hx, hb⟩ := hf
  have hn := (h.ok1.rch hx h.ne (by rw [h.root]; simp)).1
  obtain ⟨i, hi, hp, hA⟩ := first_of (fun n => farL (visits t 0) n = true) t.length ⟨n, hn, (far_iff h.ok2).2 ⟨xs, hx, hb⟩⟩
  have := valT_hit h.head (k := 2) (i := i) (c := 10) (by omega) h.pass2 hi (show codeP t i = 10 by rw [h.codeP0 hi, if_pos hp]) (by decide) (fun j hj => show codeP t j = 0 by rw [h.codeP0 (by omega), if_neg (hA j hj)])
  rw [this]
theorem Sv.pass3 {t : Tr} (h : Sv t) (hf : ¬ Far t) : Pass t 3 :=
  Pass.succ h.pass2 fun n hn => show codeP t n = 0 by
    rw [h.codeP0 hn, if_neg]
    intro hh
    obtain ⟨xs, h1, h2⟩ := (far_iff h.ok2).1 hh
    exact hf ⟨xs, n, h1, h2⟩
theorem codeQ_iff {t : Tr} {n : Nat} : codeQ t n ≠ 0 ↔ (nod t n).q ≠ 0 ∧ (nod t n).q < (usg t (visits t n) : Int) := by
  unfold codeQ
  split
  · rename_i h; simp [h]
  · rename_i h; simp [h]
theorem Sv.val_over {t : Tr} (h : Sv t) (hf : ¬ Far t) (ho : Over t) : (valT t).1 = 14 := by
  obtain ⟨n, hn, hq⟩ := ho
  obtain ⟨i, hi, hp, hA⟩ := first_of (fun n => codeQ t n ≠ 0) t.length ⟨n, hn, codeQ_iff.2 hq⟩
  have h14 : codeQ t i = 14 := by
    have := codeQ_iff.1 hp
    unfold codeQ
    rw [if_pos this]
  have := valT_hit h.head (k := 3) (i := i) (c := 14) (by omega) (h.pass3 hf) hi h14 (by decide) (fun j hj => Classical.byContradiction fun hh => hA j hj hh)
  rw [this]
theorem Sv.val_ok {t : Tr} (h : Sv t) (hf : ¬ Far t) (ho : ¬ Over t) : valT t = (0, 0) :=
  valT_miss h.head (Pass.succ (h.pass3 hf) fun n hn => Classical.byContradiction fun hh => ho ⟨n, hn, codeQ_iff.1 hh⟩)
theorem Vd.val {t : Tr} (h : Vd t) : valT t = (0, 0) := h.toSv.val_ok h.near h.fits
theorem vd_of {t : Tr} (h : (valT t).1 = 0) : Vd t := by
  obtain ⟨hd, p⟩ := valT_ok h
  have hs : Sv t := by
    have o2 := Pass.ok2 hd (p.mono (by omega))
    refine ⟨hd.ne, hd.le, hd.root, fun n hn => nok_of (p 0 (by omega) n hn), fun n hn hk h0 => o2.one hn h0 hk, fun n hn hk h0 => ?_, fun n hn hk => ?_⟩
    · have := o2.refr n hn
      unfold codeLk at this
      rw [if_pos (.inr ⟨hk, h0⟩)] at this
      cases this
    · exact (Pass.from_ hd (p.mono (by omega)) hn hk).2
  refine ⟨hs, ?_, ?_⟩
  · rintro ⟨xs, n, hx, hb⟩
    have := hs.val_far ⟨xs, n, hx, hb⟩
    rw [h] at this; cases this
  · rintro ⟨n, hn, hq⟩
    exact absurd (p 3 (by omega) n hn) (codeQ_iff.2 hq)

end Go.Proofs.YtmbbmmnpkdfecaaGreatDoor

/- checkEntries at every tree and list of entries. Conditions: the cells lie in memory as they read. -/

set_option linter.all false
namespace Go.Proofs.YtmbbmmnpkdfecaaGreatDoor
open Go.RowKit

/-- The name before number k. -/
def prevP (p : ByteArray) (es : List DE) (k : Nat) : ByteArray := if k = 0 then p else (es.getD (k - 1) D0).n
theorem codeDs_hit (t : Tr) : ∀ (es : List DE) (p : ByteArray) (k : Nat), k < es.length → (∀ j, j < k → codeD t (prevP p es j) (es.getD j D0) = 0) → codeD t (prevP p es k) (es.getD k D0) ≠ 0 → codeDs t p es = codeD t (prevP p es k) (es.getD k D0)
  | [], _, k, h, _, _ => absurd h (by simp)
  | e :: r, p, 0, _, _, hc => by
    unfold prevP at hc ⊢
    simp at hc ⊢
    unfold codeDs
    rw [if_neg hc]
  | e :: r, p, k + 1, h, hA, hc => by
    have h0 := hA 0 (by omega)
    unfold prevP at h0
    simp at h0
    have hsh : ∀ j, prevP p (e :: r) (j + 1) = prevP e.n r j := by
      intro j
      unfold prevP
      rw [if_neg (by omega)]
      cases j with
      | zero => simp
      | succ j => rw [if_neg (by omega)]; simp
    have hsg : ∀ j, (e :: r).getD (j + 1) D0 = r.getD j D0 := by intro j; simp
    unfold codeDs
    rw [if_pos h0, hsh, hsg]
    rw [hsh, hsg] at hc
    refine codeDs_hit t r e.n k (by simpa using h) (fun j hj => ?_) hc
    have := hA (j + 1) (by omega)
    rwa [hsh, hsg] at this
theorem codeDs_miss (t : Tr) : ∀ (es : List DE) (p : ByteArray), (∀ j, j < es.length → codeD t (prevP p es j) (es.getD j D0) = 0) → codeDs t p es = 0
  | [], _, _ => rfl
  | e :: r, p, hA => by
    have h0 := hA 0 (by simp)
    unfold prevP at h0
    simp at h0
    have hsh : ∀ j, prevP p (e :: r) (j + 1) = prevP e.n r j := by
      intro j
      unfold prevP
      rw [if_neg (by omega)]
      cases j with
      | zero => simp
      | succ j => rw [if_neg (by omega)]; simp
    have hsg : ∀ j, (e :: r).getD (j + 1) D0 = r.getD j D0 := by intro j; simp
    unfold codeDs
    rw [if_pos h0]
    refine codeDs_miss t r e.n fun j hj => ?_
    have := hA (j + 1) (by simpa using hj)
    rwa [hsh, hsg] at this
def codeAt (t : Tr) (es : List DE) (k : Nat) : Int := codeD t (prevP ByteArray.empty es k) (es.getD k D0)
theorem codeEs_hit {t : Tr} {es : List DE} (h : ¬ 16 < es.length) {k : Nat} {c : Int} (hk : k < es.length) (hc : codeAt t es k = c) (hn : ¬ c = 0) (hA : ∀ j, j < k → codeAt t es j = 0) : codeEs t es = c := by
  unfold codeEs; rw [if_neg h, codeDs_hit t es _ k hk hA (by unfold codeAt at hc; rw [hc]; exact hn)]; exact hc
theorem codeEs_miss {t : Tr} {es : List DE} (h : ¬ 16 < es.length) (hA : ∀ j, j < es.length → codeAt t es j = 0) : codeEs t es = 0 := by
  unfold codeEs; rw [if_neg h, codeDs_miss t es _ hA]
theorem codeAt_of {t : Tr} {es : List DE} {k : Nat} {x p : ByteArray} {i : Int} (hy : es.getD k D0 = ⟨x, i⟩) (hp : prevP ByteArray.empty es k = p) :
    codeAt t es k = if vname x = false then 12 else if ltS p x = false then 5 else if i = 0 ∨ used t i = false then 3 else 0 := by
  unfold codeAt codeD; rw [hy, hp]
theorem prevP_succ {es : List DE} {k : Nat} {x : ByteArray} {i : Int} (hy : es.getD k D0 = ⟨x, i⟩) : prevP ByteArray.empty es (k + 1) = x := by
  unfold prevP; rw [if_neg (by omega), Nat.add_sub_cancel, hy]
/-- Block n holds an entry. -/
structure DB (w : World) (n : Nat) (x : ByteArray) (i : Int) : Prop where
  lt : n < w.heap.size
  c0 : w.cell? ⟨n, 0, none⟩ = some (.string x)
  c1 : w.cell? ⟨n, 1, none⟩ = some (.int .i64 i)
theorem DB.new (w : World) (x : ByteArray) (i : Int) (t : TypeId) : DB (w.alloc (.cells #[.string x, .int .i64 i] t)) w.heap.size x i :=
  ⟨by simp, by simp, by simp⟩
theorem DB.below {w w' : World} {B n : Nat} {x : ByteArray} {i : Int} (h : DB w n x i) (hb : Below B w w') (hn : n < B) : DB w' n x i :=
  ⟨Nat.lt_of_lt_of_le h.lt hb.size, (hb.cell (p := ⟨n, 0, none⟩) hn).trans h.c0, (hb.cell (p := ⟨n, 1, none⟩) hn).trans h.c1⟩
theorem DB.alloc {w : World} {n : Nat} {x : ByteArray} {i : Int} (h : DB w n x i) (o : Obj) : DB (w.alloc o) n x i :=
  h.below ((Below.refl w.heap.size w).alloc (Nat.le_refl _) o) h.lt

set_option maxHeartbeats 2000000 in
theorem checkEntries_any (ta : Option Addr) (tc : Nat) (t : Tr) (v : Value) (es : List DE) (w : World) (ht : Nods w w.heap.size ta tc t) (h : DEs w w.heap.size v es) :
    Calls Tryz.prog 106 #[.agg #[.slice ta t.length tc], v] w fun e w' => e = .returned (.int .i64 (codeEs t es)) ∧ Below w.heap.size w w' := by
  obtain ⟨a, c, rfl, hc, hl, hf, hx⟩ := h
  have HU := Lib.hid (fun i W (hb : Below w.heap.size w W) => isUsed_any ta tc t i W (ht.up hb))
  clear ht
  by_cases h16 : 16 < es.length
  · have hm := Lib.hid (show codeEs t es = 2 by unfold codeEs; rw [if_pos h16])
    clear hx hf HU
    go_enter Tryz.func106, Tryz.ntmps106
    go_wp2
    go_ret
    exact ⟨ret_int hm.out.symm, (Below.refl _ _).alloc (Nat.le_refl _) _⟩
  · have H6 := Lib.hid h16
    have h62 : es.length ≤ 16 := by omega
    have h6b : decide ((16 : Int) < (es.length : Int)) = false := by simp; omega
    have HX := Lib.hid hx
    have HFT := Lib.hid hf
    clear hf h16 hx
    go_enter Tryz.func106, Tryz.ntmps106
    go_wp2
    go_loopg [5, 7, 8, 9, 15] es.length (fun gg s5 _ _ _ s15 wr => ∃ (kk : Nat) (p : ByteArray), kk ≤ es.length ∧ es.length - kk ≤ gg ∧ s15 = .int .i64 kk ∧ s5 = .string p ∧ Aside (prevP ByteArray.empty es kk = p) ∧ Aside (Below w.heap.size w wr) ∧ Aside (One wr w.heap.size (.slice ta t.length tc)) ∧ Aside (∀ j, j < kk → codeAt t es j = 0))
    case atStart => exact ⟨0, ByteArray.empty, Nat.zero_le _, by omega, rfl, rfl, (show prevP ByteArray.empty es 0 = _ from rfl), (Below.refl _ _).alloc (Nat.le_refl _) _, One.new w _ _, fun j hj => absurd hj (Nat.not_lt_zero _)⟩
    case round =>
      obtain ⟨kk, p, hkk, hg, rfl, rfl, PV, BW, TB, A⟩ := hrel
      by_cases hlt : kk < es.length
      · have hltz : (kk : Int) < (es.length : Int) := by omega
        obtain ⟨b, o, rfl, hb, hj⟩ := HX.out (by omega)
        have g0 : wr.cell? ⟨b, o + kk * 2, none⟩ = some (.string (es.getD kk D0).n) := (BW.out.cell (p := ⟨b, _, none⟩) hb).trans (hj kk hlt).1
        have g1 : wr.cell? ⟨b, o + kk * 2 + 1, none⟩ = some (.int .i64 (es.getD kk D0).i) := (BW.out.cell (p := ⟨b, _, none⟩) hb).trans (hj kk hlt).2
        have hfit := HFT.out (es.getD kk D0) (by rw [deD hlt]; exact List.getElem_mem hlt)
        clear hj
        generalize hy : es.getD kk D0 = y at g0 g1 hfit
        obtain ⟨x, i⟩ := y
        have Y := Lib.hid hy
        have CL := Lib.hid (codeAt_of (t := t) hy PV.out)
        have PN := Lib.hid (prevP_succ hy)
        clear hy
        have hxs : x.size ≤ maxLen := hfit.1
        have HC := Lib.hid (fun (W : World) (v : Value) (h : Strs W W.heap.size v [x]) => pathJoin_any v [x] W h)
        have HS := Lib.hid (fun (W : World) (n : Nat) (hn : n = W.heap.size) (t : TypeId) => (strs_one W n hn x hxs t).more (B' := W.heap.size + 1) (Nat.le_refl _))
        have hjf := joinF_one x
        unfold joinV faultV at HC
        clear hfit hxs
        generalize joinS [x] = S at *
        generalize (joinF [x]).2 = ji at *
        generalize (joinF [x]).1 = jc at *
        have hs0 := BW.out.size
        have hl0 := TB.out.lt
        cases hv : vname x with
        | false =>
          rw [hv] at hjf CL
          rw [if_neg (by simp)] at hjf
          rw [if_pos rfl] at CL
          subst hjf
          clear hv
          go_wp2_with fail
          refine (HC.out _ _ (by simpa using HS.out (wr.alloc (.cells #[.string x, .int .i64 i] 93)) _ (by simp) 9)).mono ?_
          rintro e w' ⟨rfl, hb'⟩
          have bw : Below wr.heap.size wr w' := (((Below.refl _ _).alloc (Nat.le_refl _) _).alloc (by simp) _).trans (hb'.mono (by first | omega | (simp; done) | (simp; omega)))
          have hB1 : Below w.heap.size w w' := BW.out.trans (bw.mono hs0)
          have bws := bw.size
          clear hb' bw
          go_wp2
          go_ret
          exact ⟨ret_int (codeEs_hit H6.out hlt CL.out (by decide) A.out).symm, (by have h9 := hB1.size; repeat (first | exact hB1 | refine Below.setCell ?_ (by first | omega | (simp; done) | (simp; omega)) _ | refine Below.alloc ?_ (by first | omega | (simp; done) | (simp; omega)) _ | refine Below.drew ?_))⟩
        | true =>
          rw [hv] at hjf CL
          rw [if_pos rfl] at hjf
          rw [if_neg (by simp)] at CL
          subst hjf
          clear hv
          cases hlq : ltS p x with
          | false =>
            rw [hlq, if_pos rfl] at CL
            have hle : (Op.bytesLess x.toList p.toList || x.toList == p.toList) = true := by rw [leqS, hlq]; rfl
            clear hlq
            go_wp2_with fail
            refine (HC.out _ _ (by simpa using HS.out (wr.alloc (.cells #[.string x, .int .i64 i] 93)) _ (by simp) 9)).mono ?_
            rintro e w' ⟨rfl, hb'⟩
            have bw : Below wr.heap.size wr w' := (((Below.refl _ _).alloc (Nat.le_refl _) _).alloc (by simp) _).trans (hb'.mono (by first | omega | (simp; done) | (simp; omega)))
            have hB1 : Below w.heap.size w w' := BW.out.trans (bw.mono hs0)
            have bws := bw.size
            have GB := ((DB.new wr x i 93).alloc (.cells #[.string x] 9)).below hb' (by first | omega | (simp; done) | (simp; omega))
            have k0 := GB.c0
            have k1 := GB.c1
            have gl := GB.lt
            clear hb' bw
            go_wp2
            go_ret
            exact ⟨ret_int (codeEs_hit H6.out hlt CL.out (by decide) A.out).symm, (by have h9 := hB1.size; repeat (first | exact hB1 | refine Below.setCell ?_ (by first | omega | (simp; done) | (simp; omega)) _ | refine Below.alloc ?_ (by first | omega | (simp; done) | (simp; omega)) _ | refine Below.drew ?_))⟩
          | true =>
            rw [hlq, if_neg (by simp)] at CL
            have hle : (Op.bytesLess x.toList p.toList || x.toList == p.toList) = false := by rw [leqS, hlq]; rfl
            clear hlq
            by_cases hi : i = 0
            · rw [if_pos (Or.inl hi)] at CL
              subst hi
              go_wp2_with fail
              refine (HC.out _ _ (by simpa using HS.out (wr.alloc (.cells #[.string x, .int .i64 0] 93)) _ (by simp) 9)).mono ?_
              rintro e w' ⟨rfl, hb'⟩
              have bw : Below wr.heap.size wr w' := (((Below.refl _ _).alloc (Nat.le_refl _) _).alloc (by simp) _).trans (hb'.mono (by first | omega | (simp; done) | (simp; omega)))
              have hB1 : Below w.heap.size w w' := BW.out.trans (bw.mono hs0)
              have bws := bw.size
              have GB := ((DB.new wr x 0 93).alloc (.cells #[.string x] 9)).below hb' (by first | omega | (simp; done) | (simp; omega))
              have k0 := GB.c0
              have k1 := GB.c1
              have gl := GB.lt
              clear hb' bw
              go_wp2
              go_ret
              exact ⟨ret_int (codeEs_hit H6.out hlt CL.out (by decide) A.out).symm, (by have h9 := hB1.size; repeat (first | exact hB1 | refine Below.setCell ?_ (by first | omega | (simp; done) | (simp; omega)) _ | refine Below.alloc ?_ (by first | omega | (simp; done) | (simp; omega)) _ | refine Below.drew ?_))⟩
            · have hi1 : (i == 0) = false := by simpa using hi
              have HI := Lib.hid (HU.out i)
              cases hu : used t i with
              | false =>
                rw [if_pos (Or.inr hu)] at CL
                rw [hu] at HI
                clear hu hi
                go_wp2_with fail
                refine (HC.out _ _ (by simpa using HS.out (wr.alloc (.cells #[.string x, .int .i64 i] 93)) _ (by simp) 9)).mono ?_
                rintro e w' ⟨rfl, hb'⟩
                have bw : Below wr.heap.size wr w' := (((Below.refl _ _).alloc (Nat.le_refl _) _).alloc (by simp) _).trans (hb'.mono (by first | omega | (simp; done) | (simp; omega)))
                have hB1 : Below w.heap.size w w' := BW.out.trans (bw.mono hs0)
                have bws := bw.size
                have GB := ((DB.new wr x i 93).alloc (.cells #[.string x] 9)).below hb' (by first | omega | (simp; done) | (simp; omega))
                have k0 := GB.c0
                have k1 := GB.c1
                have gl := GB.lt
                have TB1 := TB.out.below bw hl0
                have k2 := TB1.c0
                have l2 := TB1.lt
                clear hb' bw
                go_wp2_with fail
                refine (HI.out _ (by have h9 := hB1.size; repeat (first | exact hB1 | refine Below.setCell ?_ (by first | omega | (simp; done) | (simp; omega)) _ | refine Below.alloc ?_ (by first | omega | (simp; done) | (simp; omega)) _ | refine Below.drew ?_))).mono ?_
                rintro e w2 ⟨rfl, hb2⟩
                have hB2 : Below w.heap.size w w2 := (show Below w.heap.size w _ from (by have h9 := hB1.size; repeat (first | exact hB1 | refine Below.setCell ?_ (by first | omega | (simp; done) | (simp; omega)) _ | refine Below.alloc ?_ (by first | omega | (simp; done) | (simp; omega)) _ | refine Below.drew ?_))).trans (hb2.mono (by have h9 := hB1.size; first | omega | (simp; done) | (simp; omega)))
                go_wp2
                go_ret
                exact ⟨ret_int (codeEs_hit H6.out hlt CL.out (by decide) A.out).symm, hB2⟩
              | true =>
                rw [if_neg (by rintro (h | h); exact hi h; rw [hu] at h; cases h)] at CL
                rw [hu] at HI
                clear hu hi
                go_wp2_with fail
                refine (HC.out _ _ (by simpa using HS.out (wr.alloc (.cells #[.string x, .int .i64 i] 93)) _ (by simp) 9)).mono ?_
                rintro e w' ⟨rfl, hb'⟩
                have bw : Below wr.heap.size wr w' := (((Below.refl _ _).alloc (Nat.le_refl _) _).alloc (by simp) _).trans (hb'.mono (by first | omega | (simp; done) | (simp; omega)))
                have hB1 : Below w.heap.size w w' := BW.out.trans (bw.mono hs0)
                have bws := bw.size
                have GB := ((DB.new wr x i 93).alloc (.cells #[.string x] 9)).below hb' (by first | omega | (simp; done) | (simp; omega))
                have k0 := GB.c0
                have k1 := GB.c1
                have gl := GB.lt
                have TB1 := TB.out.below bw hl0
                have k2 := TB1.c0
                have l2 := TB1.lt
                clear hb' bw
                go_wp2_with fail
                refine (HI.out _ (by have h9 := hB1.size; repeat (first | exact hB1 | refine Below.setCell ?_ (by first | omega | (simp; done) | (simp; omega)) _ | refine Below.alloc ?_ (by first | omega | (simp; done) | (simp; omega)) _ | refine Below.drew ?_))).mono ?_
                rintro e w2 ⟨rfl, hb2⟩
                have hB2 : Below w.heap.size w w2 := (show Below w.heap.size w _ from (by have h9 := hB1.size; repeat (first | exact hB1 | refine Below.setCell ?_ (by first | omega | (simp; done) | (simp; omega)) _ | refine Below.alloc ?_ (by first | omega | (simp; done) | (simp; omega)) _ | refine Below.drew ?_))).trans (hb2.mono (by have h9 := hB1.size; first | omega | (simp; done) | (simp; omega)))
                have k3 := ((GB.alloc (.cells #[.int .i64 0, .int .i64 ji] 37)).below hb2 (by first | omega | (simp; done) | (simp; omega))).c0
                have TB2 := Lib.hid ((TB1.alloc (.cells #[.int .i64 0, .int .i64 ji] 37)).below hb2 (by have h9 := TB1.lt; first | omega | (simp; done) | (simp; omega)))
                have hBB := Lib.hid hB2
                have hl2 := TB2.out.lt
                clear hb2 hB2
                go_wp2
                go_roundg (es.length - (kk + 1))
                case measure => omega
                case rel =>
                  refine ⟨kk + 1, x, by omega, by omega, by go_num, rfl, PN.out, hBB.out, TB2.out, (show Aside _ from fun j hj => ?_)⟩
                  by_cases e : j = kk
                  · subst e; exact CL.out
                  · exact A.out j (by omega)
      · have hltz : ¬ (kk : Int) < (es.length : Int) := by omega
        have e : kk = es.length := by omega
        have E : Aside (kk = es.length) := e
        clear e
        go_wp2
        go_ret
        exact ⟨ret_int (codeEs_miss H6.out fun j hj => A.out j (by have := E.out; omega)).symm, BW.out⟩

end Go.Proofs.YtmbbmmnpkdfecaaGreatDoor

/- checkContents at every inode. Conditions: the inode's slices lie in memory as they read. -/

set_option linter.all false
namespace Go.Proofs.YtmbbmmnpkdfecaaGreatDoor
open Go.RowKit

set_option maxHeartbeats 3200000 in
theorem checkContents_any (x : Nod) (ve vd va vx : Value) (w : World) (h : NodS w w.heap.size ve vd va vx x) :
    Calls Tryz.prog 103 #[.agg #[.int .i64 x.k, .int .i64 x.o, ve, vd, va, vx, .int .i64 x.q, .int .i64 x.v]] w fun e w' => e = .returned (.int .i64 (codeC x)) ∧ Below w.heap.size w w' := by
  obtain ⟨⟨ea, ec, rfl, hec, hel, _, _⟩, ⟨da, dc, rfl, hdc⟩, hdl, ⟨aa, acp, rfl, hacc, hacl, _, _⟩, ⟨xa, xc, rfl, hxc, hxl, _, _⟩, _, _, _, _⟩ := h
  have HC := Lib.hid (show codeC x = if ¬ (0 ≤ x.o ∧ x.o ≤ 7) ∨ ¬ (0 ≤ x.v ∧ x.v ≤ 1000000) ∨ ¬ (0 ≤ x.q ∧ x.q ≤ 100000) then 3
    else if (x.k = 1 ∧ 0 < x.dl) ∨ (x.k ≠ 1 ∧ (0 < x.es.length ∨ x.q ≠ 0)) then 5
    else if 200 < x.dl then 10 else 0 from rfl)
  generalize codeC x = r at *
  generalize x.es.length = n1 at *
  generalize x.dl = n2 at *
  generalize x.ac.length = n3 at *
  generalize x.xs.length = n4 at *
  obtain ⟨k, o, es, dl, ac, xs, q, v⟩ := x
  simp only at *
  have c1 := fun W => isBetween_any o 7 W
  have c2 := fun W => isBetween_any v 1000000 W
  have c3 := fun W => isBetween_any q 100000 W
  by_cases h1 : 0 ≤ o ∧ o ≤ 7
  · rw [decide_eq_true h1] at c1
    by_cases h2 : 0 ≤ v ∧ v ≤ 1000000
    · rw [decide_eq_true h2] at c2
      by_cases h3 : 0 ≤ q ∧ q ≤ 100000
      · rw [decide_eq_true h3] at c3
        rw [if_neg (by simp [h1, h2, h3])] at HC
        clear h1 h2 h3
        by_cases hk : k = 1
        · subst hk
          by_cases hd : 0 < n2
          · rw [if_pos (Or.inl ⟨rfl, hd⟩)] at HC
            have C1 := Lib.hid c1; have C2 := Lib.hid c2; have C3 := Lib.hid c3
            clear c1 c2 c3
            go_enter Tryz.func103, Tryz.ntmps103
            go_wp2_with fail
            refine (C1.out _).mono ?_
            rintro e w' ⟨rfl, rfl⟩
            go_wp2_with fail
            refine (C2.out _).mono ?_
            rintro e w' ⟨rfl, rfl⟩
            go_wp2_with fail
            refine (C3.out _).mono ?_
            rintro e w' ⟨rfl, rfl⟩
            go_wp2
            go_ret
            exact ⟨ret_int (by rw [HC.out]), (Below.refl _ _).alloc (Nat.le_refl _) _⟩
          · obtain rfl : n2 = 0 := by omega
            rw [if_neg (by simp), if_neg (by simp)] at HC
            have C1 := Lib.hid c1; have C2 := Lib.hid c2; have C3 := Lib.hid c3
            clear c1 c2 c3
            go_enter Tryz.func103, Tryz.ntmps103
            go_wp2_with fail
            refine (C1.out _).mono ?_
            rintro e w' ⟨rfl, rfl⟩
            go_wp2_with fail
            refine (C2.out _).mono ?_
            rintro e w' ⟨rfl, rfl⟩
            go_wp2_with fail
            refine (C3.out _).mono ?_
            rintro e w' ⟨rfl, rfl⟩
            go_wp2
            go_ret
            exact ⟨ret_int (by rw [HC.out]), (Below.refl _ _).alloc (Nat.le_refl _) _⟩
        · have hk1 : (k == 1) = false := by simpa using hk
          by_cases he : 0 < n1
          · rw [if_pos (Or.inr ⟨hk, Or.inl he⟩)] at HC
            clear hk
            have C1 := Lib.hid c1; have C2 := Lib.hid c2; have C3 := Lib.hid c3
            clear c1 c2 c3
            go_enter Tryz.func103, Tryz.ntmps103
            go_wp2_with fail
            refine (C1.out _).mono ?_
            rintro e w' ⟨rfl, rfl⟩
            go_wp2_with fail
            refine (C2.out _).mono ?_
            rintro e w' ⟨rfl, rfl⟩
            go_wp2_with fail
            refine (C3.out _).mono ?_
            rintro e w' ⟨rfl, rfl⟩
            go_wp2
            go_ret
            exact ⟨ret_int (by rw [HC.out]), (Below.refl _ _).alloc (Nat.le_refl _) _⟩
          · obtain rfl : n1 = 0 := by omega
            by_cases hq : q = 0
            · subst hq
              rw [if_neg (by simp [hk])] at HC
              clear hk
              by_cases hd : 200 < n2
              · rw [if_pos hd] at HC
                have C1 := Lib.hid c1; have C2 := Lib.hid c2; have C3 := Lib.hid c3
                clear c1 c2 c3
                go_enter Tryz.func103, Tryz.ntmps103
                go_wp2_with fail
                refine (C1.out _).mono ?_
                rintro e w' ⟨rfl, rfl⟩
                go_wp2_with fail
                refine (C2.out _).mono ?_
                rintro e w' ⟨rfl, rfl⟩
                go_wp2_with fail
                refine (C3.out _).mono ?_
                rintro e w' ⟨rfl, rfl⟩
                go_wp2
                go_ret
                exact ⟨ret_int (by rw [HC.out]), (Below.refl _ _).alloc (Nat.le_refl _) _⟩
              · rw [if_neg hd] at HC
                have C1 := Lib.hid c1; have C2 := Lib.hid c2; have C3 := Lib.hid c3
                clear c1 c2 c3
                go_enter Tryz.func103, Tryz.ntmps103
                go_wp2_with fail
                refine (C1.out _).mono ?_
                rintro e w' ⟨rfl, rfl⟩
                go_wp2_with fail
                refine (C2.out _).mono ?_
                rintro e w' ⟨rfl, rfl⟩
                go_wp2_with fail
                refine (C3.out _).mono ?_
                rintro e w' ⟨rfl, rfl⟩
                go_wp2
                go_ret
                exact ⟨ret_int (by rw [HC.out]), (Below.refl _ _).alloc (Nat.le_refl _) _⟩
            · rw [if_pos (Or.inr ⟨hk, Or.inr hq⟩)] at HC
              have hq1 : (q != 0) = true := by simpa using hq
              clear hk hq
              have C1 := Lib.hid c1; have C2 := Lib.hid c2; have C3 := Lib.hid c3
              clear c1 c2 c3
              go_enter Tryz.func103, Tryz.ntmps103
              go_wp2_with fail
              refine (C1.out _).mono ?_
              rintro e w' ⟨rfl, rfl⟩
              go_wp2_with fail
              refine (C2.out _).mono ?_
              rintro e w' ⟨rfl, rfl⟩
              go_wp2_with fail
              refine (C3.out _).mono ?_
              rintro e w' ⟨rfl, rfl⟩
              go_wp2
              go_ret
              exact ⟨ret_int (by rw [HC.out]), (Below.refl _ _).alloc (Nat.le_refl _) _⟩
      · rw [decide_eq_false h3] at c3
        rw [if_pos (Or.inr (Or.inr h3))] at HC
        clear h1 h2 h3
        have C1 := Lib.hid c1; have C2 := Lib.hid c2; have C3 := Lib.hid c3
        clear c1 c2 c3
        go_enter Tryz.func103, Tryz.ntmps103
        go_wp2_with fail
        refine (C1.out _).mono ?_
        rintro e w' ⟨rfl, rfl⟩
        go_wp2_with fail
        refine (C2.out _).mono ?_
        rintro e w' ⟨rfl, rfl⟩
        go_wp2_with fail
        refine (C3.out _).mono ?_
        rintro e w' ⟨rfl, rfl⟩
        go_wp2
        go_ret
        exact ⟨ret_int (by rw [HC.out]), (Below.refl _ _).alloc (Nat.le_refl _) _⟩
    · rw [decide_eq_false h2] at c2
      rw [if_pos (Or.inr (Or.inl h2))] at HC
      clear h1 h2
      have C1 := Lib.hid c1; have C2 := Lib.hid c2; have C3 := Lib.hid c3
      clear c1 c2 c3
      go_enter Tryz.func103, Tryz.ntmps103
      go_wp2_with fail
      refine (C1.out _).mono ?_
      rintro e w' ⟨rfl, rfl⟩
      go_wp2_with fail
      refine (C2.out _).mono ?_
      rintro e w' ⟨rfl, rfl⟩
      go_wp2
      go_ret
      exact ⟨ret_int (by rw [HC.out]), (Below.refl _ _).alloc (Nat.le_refl _) _⟩
  · rw [decide_eq_false h1] at c1
    rw [if_pos (Or.inl h1)] at HC
    clear h1
    have C1 := Lib.hid c1; have C2 := Lib.hid c2; have C3 := Lib.hid c3
    clear c1 c2 c3
    go_enter Tryz.func103, Tryz.ntmps103
    go_wp2_with fail
    refine (C1.out _).mono ?_
    rintro e w' ⟨rfl, rfl⟩
    go_wp2
    go_ret
    exact ⟨ret_int (by rw [HC.out]), (Below.refl _ _).alloc (Nat.le_refl _) _⟩

end Go.Proofs.YtmbbmmnpkdfecaaGreatDoor

/- slices.Clone at the element types of a tree: a new slice of the same cells in memory of the call's own. Conditions: the slice's cells lie in memory as they read; a million elements at the most. -/

set_option linter.all false
namespace Go.Proofs.YtmbbmmnpkdfecaaGreatDoor
open Go.RowKit

theorem infoI : (Tryz.prog.info? 63).map (fun i => (i.zero, i.size, i.bytes)) = some (some (.agg #[.int .i64 0, .int .i64 0, .slice none 0 0, .slice none 0 0, .slice none 0 0, .slice none 0 0, .int .i64 0, .int .i64 0]), 8, 128) := by kernel_rfl
set_option maxRecDepth 100000 in
set_option maxHeartbeats 1000000 in
theorem cloneI_any (a : Option Addr) (n c : Nat) (news : List Value) (w : World) (hl : news.length = n * 8) (hn : n ≤ 1000000) (h0 : a = none → n = 0) (hc : ∀ ad, a = some ad → ∀ j u, news[j]? = some u → w.cell? (ad.add j) = some u) (h1 : ∀ u ∈ news, u.oneCell' = true) :
    Calls Tryz.prog 61 #[.slice a n c] w fun e w' => ∃ v', e = .returned v' ∧ w'.ownsRow w.heap.size 63 8 v' n news ∧ Below w.heap.size w w' := by
  have q22 : ∀ (w : World) (a : Option Addr) (n c n' c' : Nat), (binOp .eql 22 (.slice a n c) (.slice none n' c')).run Tryz.prog w = .ok (.bool a.isNone) w := fun w a n c n' c' => Lib.run_eql_slice_nil w _ _ a n c n' c' Tryz.underlying22
  cases a with
  | none =>
    obtain rfl := h0 rfl
    obtain rfl : news = [] := List.eq_nil_of_length_eq_zero (by omega)
    clear hc h1 h0 hl
    go_enter Tryz.func61, Tryz.ntmps61
    go_wp2
    go_ret
    exact ⟨_, rfl, World.ownsRow_nil _ _ _ _, Below.refl _ _⟩
  | some ad =>
    obtain ⟨i0, hi, hz0, hz1, hz2⟩ := info_parts infoI
    have A : Aside (∀ j u, news[j]? = some u → w.cell? (ad.add j) = some u) := hc ad rfl
    clear hc h0
    go_enter Tryz.func61, Tryz.ntmps61
    go_wp2_with (at_builtin; refine wpList_append_own _ rfl _ _ 22 rfl w.heap.size 63 i0 _ 8 128 Tryz.underlying22 hi hz0 hz1 hz2 rfl (by decide) _ _ _ rfl (World.ownsRow_made w #[] 0 (Nat.le_refl _) (Nat.zero_le _) (by simp)) ad n c news rfl ?qc1 ?qc2 ?qc3 ?qc4 ?qc5 ?qc6 ?_)
    case qc1 => exact hl
    case qc2 => exact fun j u hj => Lib.cell?_alloc_some _ (A.out j u hj)
    case qc3 => exact h1
    case qc4 => simp [maxLen]; omega
    case qc5 => omega
    case qc6 => simp
    intro v' w1 hown hgrow hnil
    have hb := Lib.hid (((Below.refl w.heap.size w).alloc (Nat.le_refl _) (.cells #[] 63)).grown hgrow (by simp) (by intro k hk; simp [Value.ownBlock] at hk; omega))
    have ho := Lib.hid hown
    clear hgrow hown hnil
    go_wp2
    go_ret
    exact ⟨v', rfl, by simpa using ho.out, hb.out⟩
theorem infoD : (Tryz.prog.info? 93).map (fun i => (i.zero, i.size, i.bytes)) = some (some (.agg #[.string ByteArray.empty, .int .i64 0]), 2, 24) := by kernel_rfl
set_option maxRecDepth 100000 in
set_option maxHeartbeats 1000000 in
theorem cloneD_any (a : Option Addr) (n c : Nat) (news : List Value) (w : World) (hl : news.length = n * 2) (hn : n ≤ 1000000) (h0 : a = none → n = 0) (hc : ∀ ad, a = some ad → ∀ j u, news[j]? = some u → w.cell? (ad.add j) = some u) (h1 : ∀ u ∈ news, u.oneCell' = true) :
    Calls Tryz.prog 62 #[.slice a n c] w fun e w' => ∃ v', e = .returned v' ∧ w'.ownsRow w.heap.size 93 2 v' n news ∧ Below w.heap.size w w' := by
  have q22 : ∀ (w : World) (a : Option Addr) (n c n' c' : Nat), (binOp .eql 60 (.slice a n c) (.slice none n' c')).run Tryz.prog w = .ok (.bool a.isNone) w := fun w a n c n' c' => Lib.run_eql_slice_nil w _ _ a n c n' c' Tryz.underlying60
  cases a with
  | none =>
    obtain rfl := h0 rfl
    obtain rfl : news = [] := List.eq_nil_of_length_eq_zero (by omega)
    clear hc h1 h0 hl
    go_enter Tryz.func62, Tryz.ntmps62
    go_wp2
    go_ret
    exact ⟨_, rfl, World.ownsRow_nil _ _ _ _, Below.refl _ _⟩
  | some ad =>
    obtain ⟨i0, hi, hz0, hz1, hz2⟩ := info_parts infoD
    have A : Aside (∀ j u, news[j]? = some u → w.cell? (ad.add j) = some u) := hc ad rfl
    clear hc h0
    go_enter Tryz.func62, Tryz.ntmps62
    go_wp2_with (at_builtin; refine wpList_append_own _ rfl _ _ 60 rfl w.heap.size 93 i0 _ 2 24 Tryz.underlying60 hi hz0 hz1 hz2 rfl (by decide) _ _ _ rfl (World.ownsRow_made w #[] 0 (Nat.le_refl _) (Nat.zero_le _) (by simp)) ad n c news rfl ?qc1 ?qc2 ?qc3 ?qc4 ?qc5 ?qc6 ?_)
    case qc1 => exact hl
    case qc2 => exact fun j u hj => Lib.cell?_alloc_some _ (A.out j u hj)
    case qc3 => exact h1
    case qc4 => simp [maxLen]; omega
    case qc5 => omega
    case qc6 => simp
    intro v' w1 hown hgrow hnil
    have hb := Lib.hid (((Below.refl w.heap.size w).alloc (Nat.le_refl _) (.cells #[] 93)).grown hgrow (by simp) (by intro k hk; simp [Value.ownBlock] at hk; omega))
    have ho := Lib.hid hown
    clear hgrow hown hnil
    go_wp2
    go_ret
    exact ⟨v', rfl, by simpa using ho.out, hb.out⟩
theorem infoB : (Tryz.prog.info? 5).map (fun i => (i.zero, i.size, i.bytes)) = some (some (.int .u8 0), 1, 1) := by kernel_rfl
set_option maxRecDepth 100000 in
set_option maxHeartbeats 1000000 in
theorem cloneB_any (a : Option Addr) (n c : Nat) (news : List Value) (w : World) (hl : news.length = n * 1) (hn : n ≤ 1000000) (h0 : a = none → n = 0) (hc : ∀ ad, a = some ad → ∀ j u, news[j]? = some u → w.cell? (ad.add j) = some u) (h1 : ∀ u ∈ news, u.oneCell' = true) :
    Calls Tryz.prog 63 #[.slice a n c] w fun e w' => ∃ v', e = .returned v' ∧ w'.ownsRow w.heap.size 5 1 v' n news ∧ Below w.heap.size w w' := by
  have q22 : ∀ (w : World) (a : Option Addr) (n c n' c' : Nat), (binOp .eql 25 (.slice a n c) (.slice none n' c')).run Tryz.prog w = .ok (.bool a.isNone) w := fun w a n c n' c' => Lib.run_eql_slice_nil w _ _ a n c n' c' Tryz.underlying25
  cases a with
  | none =>
    obtain rfl := h0 rfl
    obtain rfl : news = [] := List.eq_nil_of_length_eq_zero (by omega)
    clear hc h1 h0 hl
    go_enter Tryz.func63, Tryz.ntmps63
    go_wp2
    go_ret
    exact ⟨_, rfl, World.ownsRow_nil _ _ _ _, Below.refl _ _⟩
  | some ad =>
    obtain ⟨i0, hi, hz0, hz1, hz2⟩ := info_parts infoB
    have A : Aside (∀ j u, news[j]? = some u → w.cell? (ad.add j) = some u) := hc ad rfl
    clear hc h0
    go_enter Tryz.func63, Tryz.ntmps63
    go_wp2_with (at_builtin; refine wpList_append_own _ rfl _ _ 25 rfl w.heap.size 5 i0 _ 1 1 Tryz.underlying25 hi hz0 hz1 hz2 rfl (by decide) _ _ _ rfl (World.ownsRow_made w #[] 0 (Nat.le_refl _) (Nat.zero_le _) (by simp)) ad n c news rfl ?qc1 ?qc2 ?qc3 ?qc4 ?qc5 ?qc6 ?_)
    case qc1 => exact hl
    case qc2 => exact fun j u hj => Lib.cell?_alloc_some _ (A.out j u hj)
    case qc3 => exact h1
    case qc4 => simp [maxLen]; omega
    case qc5 => omega
    case qc6 => simp
    intro v' w1 hown hgrow hnil
    have hb := Lib.hid (((Below.refl w.heap.size w).alloc (Nat.le_refl _) (.cells #[] 5)).grown hgrow (by simp) (by intro k hk; simp [Value.ownBlock] at hk; omega))
    have ho := Lib.hid hown
    clear hgrow hown hnil
    go_wp2
    go_ret
    exact ⟨v', rfl, by simpa using ho.out, hb.out⟩
theorem infoE : (Tryz.prog.info? 108).map (fun i => (i.zero, i.size, i.bytes)) = some (some (.agg #[.int .i64 0, .int .i64 0, .int .i64 0]), 3, 24) := by kernel_rfl
set_option maxRecDepth 100000 in
set_option maxHeartbeats 1000000 in
theorem cloneE_any (a : Option Addr) (n c : Nat) (news : List Value) (w : World) (hl : news.length = n * 3) (hn : n ≤ 1000000) (h0 : a = none → n = 0) (hc : ∀ ad, a = some ad → ∀ j u, news[j]? = some u → w.cell? (ad.add j) = some u) (h1 : ∀ u ∈ news, u.oneCell' = true) :
    Calls Tryz.prog 64 #[.slice a n c] w fun e w' => ∃ v', e = .returned v' ∧ w'.ownsRow w.heap.size 108 3 v' n news ∧ Below w.heap.size w w' := by
  have q22 : ∀ (w : World) (a : Option Addr) (n c n' c' : Nat), (binOp .eql 26 (.slice a n c) (.slice none n' c')).run Tryz.prog w = .ok (.bool a.isNone) w := fun w a n c n' c' => Lib.run_eql_slice_nil w _ _ a n c n' c' Tryz.underlying26
  cases a with
  | none =>
    obtain rfl := h0 rfl
    obtain rfl : news = [] := List.eq_nil_of_length_eq_zero (by omega)
    clear hc h1 h0 hl
    go_enter Tryz.func64, Tryz.ntmps64
    go_wp2
    go_ret
    exact ⟨_, rfl, World.ownsRow_nil _ _ _ _, Below.refl _ _⟩
  | some ad =>
    obtain ⟨i0, hi, hz0, hz1, hz2⟩ := info_parts infoE
    have A : Aside (∀ j u, news[j]? = some u → w.cell? (ad.add j) = some u) := hc ad rfl
    clear hc h0
    go_enter Tryz.func64, Tryz.ntmps64
    go_wp2_with (at_builtin; refine wpList_append_own _ rfl _ _ 26 rfl w.heap.size 108 i0 _ 3 24 Tryz.underlying26 hi hz0 hz1 hz2 rfl (by decide) _ _ _ rfl (World.ownsRow_made w #[] 0 (Nat.le_refl _) (Nat.zero_le _) (by simp)) ad n c news rfl ?qc1 ?qc2 ?qc3 ?qc4 ?qc5 ?qc6 ?_)
    case qc1 => exact hl
    case qc2 => exact fun j u hj => Lib.cell?_alloc_some _ (A.out j u hj)
    case qc3 => exact h1
    case qc4 => simp [maxLen]; omega
    case qc5 => omega
    case qc6 => simp
    intro v' w1 hown hgrow hnil
    have hb := Lib.hid (((Below.refl w.heap.size w).alloc (Nat.le_refl _) (.cells #[] 108)).grown hgrow (by simp) (by intro k hk; simp [Value.ownBlock] at hk; omega))
    have ho := Lib.hid hown
    clear hgrow hown hnil
    go_wp2
    go_ret
    exact ⟨v', rfl, by simpa using ho.out, hb.out⟩
theorem infoA : (Tryz.prog.info? 28).map (fun i => (i.zero, i.size, i.bytes)) = some (some (.agg #[.string ByteArray.empty, .string ByteArray.empty]), 2, 32) := by kernel_rfl
set_option maxRecDepth 100000 in
set_option maxHeartbeats 1000000 in
theorem cloneA_any (a : Option Addr) (n c : Nat) (news : List Value) (w : World) (hl : news.length = n * 2) (hn : n ≤ 1000000) (h0 : a = none → n = 0) (hc : ∀ ad, a = some ad → ∀ j u, news[j]? = some u → w.cell? (ad.add j) = some u) (h1 : ∀ u ∈ news, u.oneCell' = true) :
    Calls Tryz.prog 65 #[.slice a n c] w fun e w' => ∃ v', e = .returned v' ∧ w'.ownsRow w.heap.size 28 2 v' n news ∧ Below w.heap.size w w' := by
  have q22 : ∀ (w : World) (a : Option Addr) (n c n' c' : Nat), (binOp .eql 61 (.slice a n c) (.slice none n' c')).run Tryz.prog w = .ok (.bool a.isNone) w := fun w a n c n' c' => Lib.run_eql_slice_nil w _ _ a n c n' c' Tryz.underlying61
  cases a with
  | none =>
    obtain rfl := h0 rfl
    obtain rfl : news = [] := List.eq_nil_of_length_eq_zero (by omega)
    clear hc h1 h0 hl
    go_enter Tryz.func65, Tryz.ntmps65
    go_wp2
    go_ret
    exact ⟨_, rfl, World.ownsRow_nil _ _ _ _, Below.refl _ _⟩
  | some ad =>
    obtain ⟨i0, hi, hz0, hz1, hz2⟩ := info_parts infoA
    have A : Aside (∀ j u, news[j]? = some u → w.cell? (ad.add j) = some u) := hc ad rfl
    clear hc h0
    go_enter Tryz.func65, Tryz.ntmps65
    go_wp2_with (at_builtin; refine wpList_append_own _ rfl _ _ 61 rfl w.heap.size 28 i0 _ 2 32 Tryz.underlying61 hi hz0 hz1 hz2 rfl (by decide) _ _ _ rfl (World.ownsRow_made w #[] 0 (Nat.le_refl _) (Nat.zero_le _) (by simp)) ad n c news rfl ?qc1 ?qc2 ?qc3 ?qc4 ?qc5 ?qc6 ?_)
    case qc1 => exact hl
    case qc2 => exact fun j u hj => Lib.cell?_alloc_some _ (A.out j u hj)
    case qc3 => exact h1
    case qc4 => simp [maxLen]; omega
    case qc5 => omega
    case qc6 => simp
    intro v' w1 hown hgrow hnil
    have hb := Lib.hid (((Below.refl w.heap.size w).alloc (Nat.le_refl _) (.cells #[] 28)).grown hgrow (by simp) (by intro k hk; simp [Value.ownBlock] at hk; omega))
    have ho := Lib.hid hown
    clear hgrow hown hnil
    go_wp2
    go_ret
    exact ⟨v', rfl, by simpa using ho.out, hb.out⟩

end Go.Proofs.YtmbbmmnpkdfecaaGreatDoor

/- Plain facts on trees that differ in one entry: which paths are reached, how many entries refer to an inode, how much lies below. No program. -/

set_option linter.all false
namespace Go.Proofs.YtmbbmmnpkdfecaaGreatDoor
open Go.RowKit

/-- t' is t with one more entry e in directory p. -/
structure Adds (t t' : Tr) (p : Nat) (e : DE) : Prop where
  other : ∀ n, n ≠ p → kids t' n = kids t n
  perm : (kids t' p).Perm (e :: kids t p)
theorem Adds.mem {t t' : Tr} {p : Nat} {e : DE} (h : Adds t t' p e) (x : DE) : x ∈ kids t' p ↔ x = e ∨ x ∈ kids t p := by
  rw [h.perm.mem_iff, List.mem_cons]
theorem Adds.sub {t t' : Tr} {p : Nat} {e : DE} (h : Adds t t' p e) {n : Nat} {x : DE} (hx : x ∈ kids t n) : x ∈ kids t' n := by
  by_cases hn : n = p
  · subst hn; exact (h.mem x).2 (.inr hx)
  · rw [h.other n hn]; exact hx
theorem Rch.mono {t t' : Tr} (hs : ∀ n x, x ∈ kids t n → x ∈ kids t' n) {s n : Nat} {xs : List ByteArray} (h : Rch t s xs n) : Rch t' s xs n := by
  induction h with
  | nil => exact .nil
  | snoc _ he ih => exact .snoc ih (hs _ _ he)
theorem Adds.up {t t' : Tr} {p : Nat} {e : DE} (h : Adds t t' p e) {s n : Nat} {xs : List ByteArray} (hr : Rch t s xs n) : Rch t' s xs n :=
  hr.mono fun _ _ hx => h.sub hx
theorem Adds.rch {t t' : Tr} {p : Nat} {e : DE} (h : Adds t t' p e) (hc : ∀ zs, ¬ Rch t e.i.toNat zs p) {s n : Nat} {xs : List ByteArray} :
    Rch t' s xs n ↔ Rch t s xs n ∨ ∃ ys zs, xs = ys ++ e.n :: zs ∧ Rch t s ys p ∧ Rch t e.i.toNat zs n := by
  constructor
  · intro hr
    induction hr with
    | nil => exact .inl .nil
    | @snoc us q d hx he ih =>
      rcases ih with h1 | ⟨ys, zs, rfl, h1, h2⟩
      · by_cases hq : q = p
        · subst hq
          rcases (h.mem d).1 he with rfl | he
          · exact .inr ⟨us, [], rfl, h1, .nil⟩
          · exact .inl (.snoc h1 he)
        · rw [h.other q hq] at he
          exact .inl (.snoc h1 he)
      · by_cases hq : q = p
        · subst hq; exact absurd h2 (hc zs)
        · rw [h.other q hq] at he
          exact .inr ⟨ys, zs ++ [d.n], by simp, h1, .snoc h2 he⟩
  · rintro (hr | ⟨ys, zs, rfl, h1, h2⟩)
    · exact h.up hr
    · have h3 := (Rch.snoc (h.up h1) ((h.mem e).2 (.inl rfl))).trans (h.up h2)
      simpa using h3
/-- Nothing lies below an inode without entries. -/
theorem rch_leaf {t : Tr} {m n : Nat} {zs : List ByteArray} (hm : kids t m = []) (h : Rch t m zs n) : zs = [] ∧ n = m := by
  induction h with
  | nil => exact ⟨rfl, rfl⟩
  | snoc _ he ih =>
    obtain ⟨_, rfl⟩ := ih
    rw [hm] at he; cases he

/-! ## References -/
theorem countP_range (f : Nat → List DE) (p : DE → Bool) : ∀ L, (((List.range L).map f).flatMap id).countP p = ((List.range L).map fun i => (f i).countP p).sum
  | 0 => by simp
  | L + 1 => by
    rw [List.range_succ, List.map_append, List.flatMap_append, List.countP_append, List.map_append, List.sum_append, countP_range f p L]
    simp
theorem kids_past {t : Tr} {n : Nat} (h : t.length ≤ n) : kids t n = [] := by unfold kids; rw [nod_past h]
theorem sum_zero_tail (f : Nat → Nat) (m : Nat) (h : ∀ i, m ≤ i → f i = 0) : ∀ d, ((List.range (m + d)).map f).sum = ((List.range m).map f).sum
  | 0 => rfl
  | d + 1 => by
    rw [← Nat.add_assoc, List.range_succ, List.map_append, List.sum_append, sum_zero_tail f m h d]
    simp [h (m + d) (by omega)]
theorem sum_more {f : Nat → Nat} {m L : Nat} (h : ∀ i, m ≤ i → f i = 0) (hL : m ≤ L) : ((List.range m).map f).sum = ((List.range L).map f).sum := by
  obtain ⟨d, rfl⟩ := Nat.exists_eq_add_of_le hL
  exact (sum_zero_tail f m h d).symm
theorem flat_range (t : Tr) : t.flatMap (·.es) = ((List.range t.length).map fun i => kids t i).flatMap id := by
  have : (List.range t.length).map (fun i => kids t i) = t.map (·.es) := by
    refine List.ext_getElem (by simp) fun i h1 h2 => ?_
    have hi : i < t.length := by simpa using h1
    simp only [List.getElem_map, List.getElem_range]
    unfold kids; rw [nod_at hi]
  rw [this, List.flatMap_map]; rfl
theorem refs_sum {t : Tr} {L : Nat} (hL : t.length ≤ L) (n : Nat) : refs t n = ((List.range L).map fun i => (kids t i).countP fun e => decide (e.i = (n : Int))).sum := by
  unfold refs
  rw [flat_range, countP_range]
  refine sum_more (fun i hi => ?_) hL
  rw [kids_past hi]; rfl
theorem Adds.refs {t t' : Tr} {p : Nat} {e : DE} (h : Adds t t' p e) (n : Nat) : Go.Proofs.YtmbbmmnpkdfecaaGreatDoor.refs t' n = Go.Proofs.YtmbbmmnpkdfecaaGreatDoor.refs t n + if e.i = (n : Int) then 1 else 0 := by
  have hL : t.length ≤ t.length + t'.length + p + 1 := by omega
  have hL' : t'.length ≤ t.length + t'.length + p + 1 := by omega
  rw [refs_sum hL, refs_sum hL']
  have h1 := sum_one_at (fun _ => if e.i = (n : Int) then 1 else 0) p (t.length + t'.length + p + 1)
  rw [if_pos (show p < t.length + t'.length + p + 1 by omega)] at h1
  rw [← h1, ← sum_map_add]
  congr 1
  refine List.map_congr_left fun i _ => ?_
  by_cases hi : p = i
  · subst hi
    rw [h.perm.countP_eq, List.countP_cons]
    simp
  · rw [h.other i (fun e => hi e.symm), if_neg hi]; rfl

/-! ## How much lies below -/
abbrev ug (t : Tr) (s : Nat) : Nat := usg t (visits t s)
theorem From.has {t : Tr} {s : Nat} (h : From t s) {n : Nat} : hasL (visits t s) n = true ↔ ∃ xs, Rch t s xs n := by
  rw [hasL_iff]
  constructor
  · rintro ⟨xs, hx⟩; exact ⟨xs, (mem_visits h.fin).1 hx⟩
  · rintro ⟨xs, hx⟩; exact ⟨xs, (mem_visits h.fin).2 hx⟩
theorem usg_sum {t : Tr} (V : List Vis) {L : Nat} (hL : t.length ≤ L) : usg t V = ((List.range L).map fun i => if hasL V i = true then (nod t i).dl else 0).sum := by
  unfold usg
  refine sum_more (fun i hi => ?_) hL
  rw [nod_past hi]; simp
theorem sum_le_sum {f g : Nat → Nat} (h : ∀ i, f i ≤ g i) : ∀ l : List Nat, (l.map f).sum ≤ (l.map g).sum
  | [] => Nat.le_refl _
  | a :: l => by
    have := sum_le_sum h l
    have := h a
    simp only [List.map_cons, List.sum_cons]; omega
theorem ug_le {t t' : Tr} {s s' : Nat} (h : From t s) (h' : From t' s') (hm : ∀ n xs, Rch t' s' xs n → (nod t' n).dl ≠ 0 → (nod t' n).dl ≤ (nod t n).dl ∧ ∃ ys, Rch t s ys n) : ug t' s' ≤ ug t s := by
  unfold ug
  rw [usg_sum (t := t) (visits t s) (L := t.length + t'.length) (by omega), usg_sum (t := t') (visits t' s') (L := t.length + t'.length) (by omega)]
  refine sum_le_sum (fun i => ?_) _
  by_cases hh : hasL (visits t' s') i = true
  · rw [if_pos hh]
    obtain ⟨xs, hx⟩ := h'.has.1 hh
    by_cases h0 : (nod t' i).dl = 0
    · omega
    · obtain ⟨h1, h2⟩ := hm i xs hx h0
      rw [if_pos (h.has.2 h2)]; exact h1
  · rw [if_neg hh]; omega

end Go.Proofs.YtmbbmmnpkdfecaaGreatDoor

/- Requests: what a request's value reads as; leaves of package memfs on requests: isBetween, usesTarget, maxSize, isBlank, isPath. Conditions: the request's slices lie in memory as they read. -/

set_option linter.all false
namespace Go.Proofs.YtmbbmmnpkdfecaaGreatDoor
open Go.RowKit

/-- A request. -/
structure Rq where
  k : Int
  u : Int
  p : ByteArray
  t : ByteArray
  off : Int
  sz : Int
  d : List UInt8
  ac : List Ent
  a : Attr
/-- The slice value v reads as the bytes d, all of it below block B. -/
def Byts (w : World) (B : Nat) (v : Value) (d : List UInt8) : Prop :=
  ∃ a c, v = .slice a d.length c ∧ d.length ≤ c ∧ d.length ≤ 140737488355328 ∧
    (0 < d.length → ∃ b o, a = some ⟨b, o, none⟩ ∧ b < B ∧ ∀ j, j < d.length → w.cell? ⟨b, o + j, none⟩ = some (.int .u8 ((d.getD j 0).toNat : Int)))
theorem Byts.keep {w w' : World} {B : Nat} {v : Value} {d : List UInt8} (h : Byts w B v d) (hk : ∀ b o, b < B → w'.cell? ⟨b, o, none⟩ = w.cell? ⟨b, o, none⟩) : Byts w' B v d := by
  obtain ⟨a, c, hv, hc, hl, hx⟩ := h
  refine ⟨a, c, hv, hc, hl, fun h0 => ?_⟩
  obtain ⟨b, o, ha, hB, hj⟩ := hx h0
  exact ⟨b, o, ha, hB, fun j h => (hk _ _ hB).trans (hj j h)⟩
theorem Byts.more {w : World} {B B' : Nat} {v : Value} {d : List UInt8} (h : Byts w B v d) (hB : B ≤ B') : Byts w B' v d := by
  obtain ⟨a, c, hv, hc, hl, hx⟩ := h
  refine ⟨a, c, hv, hc, hl, fun h0 => ?_⟩
  obtain ⟨b, o, ha, hb, hj⟩ := hx h0
  exact ⟨b, o, ha, by omega, hj⟩
theorem Byts.up {w w' : World} {v : Value} {d : List UInt8} (h : Byts w w.heap.size v d) (hb : Below w.heap.size w w') : Byts w' w'.heap.size v d :=
  (h.keep fun b o hB => hb.cell (p := ⟨b, o, none⟩) hB).more hb.size
theorem Byts.none_ (w : World) (B : Nat) : Byts w B (.slice none 0 0) [] :=
  ⟨none, 0, rfl, by simp, by simp, fun h => absurd h (by simp)⟩
/-- What lies in memory of a request. -/
structure RqS (w : World) (B : Nat) (vd va : Value) (r : Rq) : Prop where
  d : Byts w B vd r.d
  ac : Acls w B va r.ac
  k : i64 r.k
  u : i64 r.u
  off : i64 r.off
  sz : i64 r.sz
  p : r.p.size ≤ maxLen
  t : r.t.size ≤ maxLen
  a : r.a.fits
theorem RqS.keep {w w' : World} {B : Nat} {vd va : Value} {r : Rq} (h : RqS w B vd va r) (hk : ∀ b o, b < B → w'.cell? ⟨b, o, none⟩ = w.cell? ⟨b, o, none⟩) : RqS w' B vd va r :=
  ⟨h.d.keep hk, h.ac.keep hk, h.k, h.u, h.off, h.sz, h.p, h.t, h.a⟩
theorem RqS.more {w : World} {B B' : Nat} {vd va : Value} {r : Rq} (h : RqS w B vd va r) (hB : B ≤ B') : RqS w B' vd va r :=
  ⟨h.d.more hB, h.ac.more hB, h.k, h.u, h.off, h.sz, h.p, h.t, h.a⟩
theorem RqS.up {w w' : World} {vd va : Value} {r : Rq} (h : RqS w w.heap.size vd va r) (hb : Below w.heap.size w w') : RqS w' w'.heap.size vd va r :=
  (h.keep fun b o hB => hb.cell (p := ⟨b, o, none⟩) hB).more hb.size
/-- A request as a value. -/
def rqV (r : Rq) (vd va : Value) : Value := .agg #[.int .i64 r.k, .int .i64 r.u, .string r.p, .string r.t, .int .i64 r.off, .int .i64 r.sz, vd, va, .string r.a.n, .string r.a.v]

set_option maxHeartbeats 400000 in
theorem mBetween_any (n m : Int) (w : World) :
    Calls Tryz.prog 116 #[.int .i64 n, .int .i64 m] w fun e w' => e = .returned (.bool (decide (0 ≤ n ∧ n ≤ m))) ∧ w' = w := by
  go_enter Tryz.func116, Tryz.ntmps116
  go_wp2
  all_goals
    go_ret
    refine ⟨ret_bool ?_, rfl⟩
    first
      | (rw [decide_eq_decide]; omega)
      | (symm; rw [decide_eq_false_iff_not]; omega)
      | (rw [Bool.eq_iff_iff]; simp; omega)

def twoB (k : Int) : Bool := decide (k = 9 ∨ k = 10)
set_option maxHeartbeats 400000 in
theorem usesTarget_any (k : Int) (w : World) :
    Calls Tryz.prog 119 #[.int .i64 k] w fun e w' => e = .returned (.bool (twoB k)) ∧ w' = w := by
  unfold twoB
  go_enter Tryz.func119, Tryz.ntmps119
  go_wp2
  all_goals
    go_ret
    refine ⟨ret_bool ?_, rfl⟩
    rw [Bool.eq_iff_iff]; simp; try omega

def maxSz (k : Int) : Int := if k = 13 then 100000 else if k = 14 then 7 else 1000000
set_option maxHeartbeats 400000 in
theorem maxSize_any (k : Int) (w : World) :
    Calls Tryz.prog 120 #[.int .i64 k] w fun e w' => e = .returned (.int .i64 (maxSz k)) ∧ w' = w := by
  have HM := Lib.hid (show maxSz k = if k = 13 then 100000 else if k = 14 then 7 else 1000000 from rfl)
  generalize maxSz k = r at *
  go_enter Tryz.func120, Tryz.ntmps120
  by_cases h1 : k = 13
  · subst h1
    go_wp2
    go_ret
    exact ⟨ret_int HM.out.symm, rfl⟩
  · rw [if_neg h1] at HM
    by_cases h2 : k = 14
    · subst h2
      go_wp2
      go_ret
      exact ⟨ret_int HM.out.symm, rfl⟩
    · rw [if_neg h2] at HM
      have e1 : (k == 13) = false := by simpa using h1
      have e2 : (k == 14) = false := by simpa using h2
      clear h1 h2
      go_wp2
      go_ret
      exact ⟨ret_int HM.out.symm, rfl⟩

def pathB (p : ByteArray) : Bool := decide ((splitF p).1 = 0)
set_option maxHeartbeats 400000 in
theorem isPath_any (p : ByteArray) (w : World) (gm : GM w) (hp : p.size ≤ maxLen) :
    Calls Tryz.prog 118 #[.string p] w fun e w' => e = .returned (.bool (pathB p)) ∧ Below w.heap.size w w' := by
  have C := pathSplit_any p w gm hp
  have HB := Lib.hid (show pathB p = decide ((splitF p).1 = 0) from rfl)
  generalize pathB p = q at *
  unfold SplitPost at C
  generalize (splitF p).1 = c at *
  generalize (splitF p).2 = i at *
  go_enter Tryz.func118, Tryz.ntmps118
  go_wp2_with fail
  refine C.mono ?_
  rintro e w' ⟨v, rfl, _, b1, _⟩
  have hs := b1.size
  go_wp2
  go_ret
  refine ⟨ret_bool ?_, b1.alloc hs _⟩
  rw [HB.out, Bool.eq_iff_iff]; simp

/-- No field that not every kind uses is set. -/
def blankB (r : Rq) : Bool := decide (r.t = ByteArray.empty ∧ r.off = 0 ∧ r.sz = 0 ∧ r.d.length = 0 ∧ r.ac.length = 0 ∧ r.a.n = ByteArray.empty ∧ r.a.v = ByteArray.empty)

set_option maxHeartbeats 1000000 in
theorem isBlank_any (r : Rq) (vd va : Value) (w : World) (h : RqS w w.heap.size vd va r) :
    Calls Tryz.prog 117 #[rqV r vd va] w fun e w' => e = .returned (.bool (blankB r)) ∧ Below w.heap.size w w' := by
  obtain ⟨⟨da, dc, rfl, hdc, hdl, _⟩, ⟨aa, ac, rfl, hac, hal, _, _⟩, _, _, _, _, _, _, _⟩ := h
  unfold rqV
  have HB := Lib.hid (show blankB r = decide (r.t = ByteArray.empty ∧ r.off = 0 ∧ r.sz = 0 ∧ r.d.length = 0 ∧ r.ac.length = 0 ∧ r.a.n = ByteArray.empty ∧ r.a.v = ByteArray.empty) from rfl)
  generalize blankB r = q at *
  generalize r.d.length = n1 at *
  generalize r.ac.length = n2 at *
  obtain ⟨k, u, p, t, off, sz, d, acl, an, av⟩ := r
  simp only at *
  go_enter Tryz.func117, Tryz.ntmps117
  go_wp2
  all_goals
    go_ret
    refine ⟨ret_bool ?_, (Below.refl _ _).alloc (Nat.le_refl _) _⟩
    rw [HB.out]
    simp_all [toList_nil]

end Go.Proofs.YtmbbmmnpkdfecaaGreatDoor

/- walk of package fstree, at any function that it visits with: every place below the start is visited, in depth-first order. Conditions: all walks from the start end; the visit leaves all but its own blocks alone. -/

set_option linter.all false
namespace Go.Proofs.YtmbbmmnpkdfecaaGreatDoor
open Go.RowKit

/-- What is asked of the visit. -/
structure Visitor {σ : Type} (t : Tr) (s0 : Nat) (g : FuncId) (caps : Array Value) (S : Nat → Prop) (H0 : Nat) (Inv : World → σ → Prop) (step : σ → Vis → σ) : Prop where
  eg : ∀ args w, (callFunc g args).run Tryz.prog w = .ok (.enter g args) w
  low : ∀ b, S b → b < H0
  keep : ∀ W W' s, Inv W s → Below H0 W W' → Inv W' s
  call : ∀ W s xs n v, H0 ≤ W.heap.size → Inv W s → Rch t s0 xs n → Strs W W.heap.size v xs → (∀ q, v.ownBlock = some q → H0 ≤ q) → Calls Tryz.prog g (#[v, .int .i64 (n : Int)] ++ caps) W fun e W' => e = .returned (.tuple #[]) ∧ Inv W' (step s (xs, n)) ∧ Kept S none W W'

/-- The three variables that follow captures, and the tree. -/
structure Env (W : World) (g : FuncId) (caps : Array Value) (pt pv pf Bt : Nat) (a : Option Addr) (c : Nat) (t : Tr) : Prop where
  tb : One W pt (.slice a t.length c)
  vb : One W pv (.func (.func g) #[] caps)
  fb : One W pf (.func (.func 151) #[] #[.pointer (some ⟨pv, 0, none⟩), .pointer (some ⟨pt, 0, none⟩), .pointer (some ⟨pf, 0, none⟩)])
  nd : Nods W Bt a c t
/-- Where these lie. -/
structure Lay (S : Nat → Prop) (H0 pt pv pf Bt base : Nat) : Prop where
  bt : Bt ≤ H0
  sb : ∀ b, S b → Bt ≤ b
  sh : ∀ b, S b → b < H0
  t0 : H0 ≤ pt
  v0 : H0 ≤ pv
  f0 : H0 ≤ pf
  t1 : pt < base
  v1 : pv < base
  f1 : pf < base
theorem Env.kept {W W' : World} {g : FuncId} {caps : Array Value} {pt pv pf Bt : Nat} {a : Option Addr} {c : Nat} {t : Tr} {S : Nat → Prop} {row : Option Nat} {H0 base : Nat} (E : Env W g caps pt pv pf Bt a c t) (k : Kept S row W W') (L : Lay S H0 pt pv pf Bt base) (hr : ∀ q, row = some q → base ≤ q) : Env W' g caps pt pv pf Bt a c t := by
  have nS : ∀ p, H0 ≤ p → ¬ S p := fun p hp hs => by have := L.sh p hs; omega
  have nR : ∀ p, p < base → some p ≠ row := fun p hp e => by have := hr p e.symm; omega
  have hB : Bt ≤ W.heap.size := by have := E.tb.lt; have := L.t0; have := L.bt; omega
  exact ⟨E.tb.kept k (nS _ L.t0) (nR _ L.t1), E.vb.kept k (nS _ L.v0) (nR _ L.v1), E.fb.kept k (nS _ L.f0) (nR _ L.f1),
    E.nd.below (k.below hB L.sb (fun q hq => by have := hr q hq; have := L.t0; have := L.t1; have := L.bt; omega))⟩

/-- What a walk of a place below has done. -/
structure Went {σ : Type} (S : Nat → Prop) (Inv : World → σ → Prop) (base : Nat) (v : Value) (xs : List ByteArray) (s' : σ) (W W' : World) : Prop where
  inv : Inv W' s'
  kept : Kept S v.ownBlock W W'
  own : W'.ownsRow base 9 1 v xs.length (xs.map Value.string)

def fin_ {σ : Type} (step : σ → Vis → σ) (t : Tr) (xs : List ByteArray) (n : Nat) (s : σ) : σ := (sub t xs n).foldl step s
/-- The state ahead of entry number k. -/
def mid_ {σ : Type} (step : σ → Vis → σ) (t : Tr) (xs : List ByteArray) (es : List DE) (s : σ) (k : Nat) : σ := ((es.take k).flatMap fun e => sub t (xs ++ [e.n]) e.i.toNat).foldl step s
theorem mid_zero {σ : Type} (step : σ → Vis → σ) (t : Tr) (xs : List ByteArray) (es : List DE) (s : σ) : mid_ step t xs es s 0 = s := by unfold mid_; simp
theorem mid_succ {σ : Type} (step : σ → Vis → σ) (t : Tr) (xs : List ByteArray) (es : List DE) (s : σ) {k : Nat} (h : k < es.length) : mid_ step t xs es s (k + 1) = fin_ step t (xs ++ [(es.getD k D0).n]) (es.getD k D0).i.toNat (mid_ step t xs es s k) := by
  unfold mid_ fin_
  rw [List.take_succ_eq_append_getElem h, List.flatMap_append, List.foldl_append, deD h]
  simp
theorem mid_end {σ : Type} (step : σ → Vis → σ) {t : Tr} {s0 : Nat} (hf : Fin t s0) {xs : List ByteArray} {n : Nat} (hr : Rch t s0 xs n) (s : σ) : mid_ step t xs (kids t n) (step s (xs, n)) (kids t n).length = fin_ step t xs n s := by
  unfold mid_ fin_
  rw [sub_eq hf hr, List.take_length, List.foldl_cons]

theorem DB.kept {S : Nat → Prop} {row : Option Nat} {a b : World} {n : Nat} {x : ByteArray} {i : Int} (h : DB a n x i) (k : Kept S row a b) (hS : ¬ S n) (hr : some n ≠ row) : DB b n x i := by
  have hb := k.block n h.lt hS hr
  exact ⟨Nat.lt_of_lt_of_le h.lt k.size, (World.cell?_of_block (a := ⟨n, 0, none⟩) hb).trans h.c0, (World.cell?_of_block (a := ⟨n, 1, none⟩) hb).trans h.c1⟩
theorem DB.drew {w : World} {n : Nat} {x : ByteArray} {i : Int} (h : DB w n x i) : DB w.drew n x i := ⟨h.lt, h.c0, h.c1⟩
/-- The caller's row behind the walk of one child. -/
theorem own_after {y y1 y2 : World} {wr : World} {S : Nat → Prop} {base n g1 cap1 : Nat} {v : Value} {xs : List Value} {x : ByteArray} (hO : wr.ownsRow base 9 1 v n xs) (hy : Below wr.heap.size wr y) (P : Put1 y y1 base v n xs x g1 cap1)
    (hS : ∀ b, S b → b < base) (K : Kept S (some g1) y1 y2) (O : y2.ownsRow base 9 1 (.slice (some ⟨g1, 0, none⟩) (n + 1) cap1) (n + 1) (xs ++ [.string x])) : y2.ownsRow base 9 1 v n xs := by
  have hx : xs.length = n * 1 := hO.1
  rcases P.at_ with rfl | ⟨hg, hgr⟩
  · exact ownsRow_pop hx O
  · refine own_block hO fun q hq hl => ?_
    have h1 := own_low hO q hq
    have h2 : q < y.heap.size := Nat.lt_of_lt_of_le hl hy.size
    rw [K.block q (Nat.lt_of_lt_of_le h2 hgr.size) (fun hs => by have := hS q hs; omega) (fun e => by injection e with e; omega), hgr.block q h2 (by simp), hy.block q hl]

set_option maxRecDepth 100000 in
set_option maxHeartbeats 4000000 in
theorem follow_any {σ : Type} {t : Tr} {s0 : Nat} {g : FuncId} {caps : Array Value} {S : Nat → Prop} {H0 : Nat} {Inv : World → σ → Prop} {step : σ → Vis → σ} (V : Visitor t s0 g caps S H0 Inv step)
    (h1 : Ok1 t) (fr : From t s0) {pt pv pf Bt base : Nat} (L : Lay S H0 pt pv pf Bt base) (a : Option Addr) (c : Nat) :
    ∀ xs n, Rch t s0 xs n → ∀ (W : World) (s : σ) (v : Value), Env W g caps pt pv pf Bt a c t → base ≤ W.heap.size → Inv W s → W.ownsRow base 9 1 v xs.length (xs.map Value.string) →
      Calls Tryz.prog 151 #[v, .int .i64 (n : Int), .pointer (some ⟨pv, 0, none⟩), .pointer (some ⟨pt, 0, none⟩), .pointer (some ⟨pf, 0, none⟩)] W fun e W' => e = .returned (.tuple #[]) ∧ Went S Inv base v xs (fin_ step t xs n s) W W' := by
  refine sub_ind fr.fin _ fun xs n hr ih => ?_
  intro W s v E hW hI hO
  obtain ⟨hn, _, hvn⟩ := h1.rch hr fr.lt fr.used
  have hxl : xs.length ≤ 40 := Nat.le_trans (fr.fin _ _ hr) h1.le
  have hxm : ∀ x ∈ xs, x.size ≤ maxLen := fun x hx => by have := (vname_size (hvn x hx)).2; unfold maxLen; omega
  have hHW : H0 ≤ W.heap.size := by have := L.t0; have := L.t1; omega
  have HC := Lib.hid (V.call W s xs n v hHW hI hr (strs_row hO hxm (by omega)) (fun q hq => by have := own_low hO q hq; have := L.t0; have := L.t1; omega))
  have eg := V.eg
  obtain ⟨b, o, ve, vd, va, vx, rfl, hb, hc, hs⟩ := E.nd.one hn
  obtain ⟨ea, ec, rfl, hec, hel, hef, hex⟩ := hs.es
  have hc2 := hc.c2
  change W.cell? ⟨b, o + n * 8 + 2, none⟩ = some (.slice ea (kids t n).length ec) at hc2
  change (kids t n).length ≤ ec at hec
  change (kids t n).length ≤ 35184372088832 at hel
  have HEX := Lib.hid (show 0 < (kids t n).length → ∃ b o, ea = some ⟨b, o, none⟩ ∧ b < Bt ∧ ∀ j, j < (kids t n).length →
      W.cell? ⟨b, o + j * 2, none⟩ = some (.string ((kids t n).getD j D0).n) ∧ W.cell? ⟨b, o + j * 2 + 1, none⟩ = some (.int .i64 ((kids t n).getD j D0).i) from hex)
  have HME := Lib.hid (mid_end step fr.fin hr s)
  have HKD := Lib.hid (fun k (hk : k < (kids t n).length) => (show (kids t n).getD k D0 ∈ kids t n from by rw [deD hk]; exact List.getElem_mem hk))
  have HIH := Lib.hid ih
  have HK := Lib.hid (fun e (he : e ∈ kids t n) => h1.kid he)
  have HRS := Lib.hid (fun e (he : e ∈ kids t n) => Rch.snoc hr he)
  have hcl := hc.c2
  clear hex hs hc hef hcl ih hxm hvn hr
  have HMS := Lib.hid (fun k (hk : k < (kids t n).length) => mid_succ step t xs (kids t n) (step s (xs, n)) hk)
  have HMZ := Lib.hid (mid_zero step t xs (kids t n) (step s (xs, n)))
  have nlz : (n : Int) < (t.length : Int) := by omega
  have nz : (0 : Int) ≤ (n : Int) := Int.natCast_nonneg _
  have vc := E.vb.c0
  have EE := Lib.hid E
  have OO := Lib.hid hO
  have LL := Lib.hid L
  have hrow := own_low hO
  have HRW := Lib.hid hrow
  have hbW : Bt ≤ W.heap.size := by have := L.bt; omega
  clear E hO L hrow hI
  generalize kids t n = es at *
  generalize hm : es.length = m at *
  go_enter Tryz.func151, Tryz.ntmps151
  go_wp2_with (go_at_fn g; refine HC.out.mono ?_; rintro e W1 ⟨rfl, I1, K1⟩; have E1 := EE.out.kept K1 LL.out (by simp); have hB1 : Below Bt W W1 := K1.below hbW LL.out.sb (by simp); have tc1 := E1.tb.c0; have ec1 := (hB1.cell (p := ⟨b, o + n * 8 + 2, none⟩) hb).trans hc2; have tl1 := E1.tb.lt)
  have KW1 : Kept S v.ownBlock W W1 := ⟨K1.os, K1.tape, K1.output, K1.size, fun k hk hS _ => K1.block k hk hS (by simp)⟩
  have O1 := Lib.hid (own_block OO.out (fun q hq hl => K1.block q hl (fun hs => by have := LL.out.sh q hs; have := HRW.out q hq; have := LL.out.t0; have := LL.out.t1; omega) (by simp)))
  have EK1 := Lib.hid E1
  have KK1 := Lib.hid KW1
  have II1 := Lib.hid I1
  clear I1 K1 E1 KW1 hB1 tc1 ec1 tl1 HC
  go_loopg [8, 20] m (fun gg _ s20 wr => ∃ k : Nat, k ≤ m ∧ m - k ≤ gg ∧ s20 = .int .i64 k ∧ Aside (Env wr g caps pt pv pf Bt (some ⟨b, o, none⟩) c t) ∧ Aside (Went S Inv base v xs (mid_ step t xs es (step s (xs, n)) k) W wr))
  case atStart => exact ⟨0, by omega, by omega, rfl, EK1.out, (show Went S Inv base v xs _ W W1 from ⟨by rw [HMZ.out]; exact II1.out, KK1.out, O1.out⟩)⟩
  case round =>
    obtain ⟨k, hk, hg, rfl, Er, Gr⟩ := hrel
    clear EK1 KK1 II1 O1
    by_cases hlt : k < m
    · have hltz : (k : Int) < (m : Int) := by omega
      obtain ⟨be, oe, rfl, hbe, hje⟩ := HEX.out (by omega)
      have hBr : Below Bt W wr := Gr.out.kept.below hbW LL.out.sb (fun q hq => by have := HRW.out q hq; have := LL.out.t0; have := LL.out.t1; have := LL.out.bt; omega)
      have g0 := (hBr.cell (p := ⟨be, oe + k * 2, none⟩) hbe).trans (hje k hlt).1
      have g1 := (hBr.cell (p := ⟨be, oe + k * 2 + 1, none⟩) hbe).trans (hje k hlt).2
      have HKE := Lib.hid (HKD.out k hlt)
      have HMK := Lib.hid (HMS.out k hlt)
      have HRc := Lib.hid (HRS.out _ HKE.out)
      have HIc := Lib.hid (HIH.out _ HKE.out)
      obtain ⟨q1, q2, q3, _, _⟩ := HK.out _ HKE.out
      clear hje hBr
      generalize es.getD k D0 = e at *
      obtain ⟨x, i⟩ := e
      simp only at g0 g1 HMK HRc HIc q1 q2 q3
      obtain ⟨n2, rfl⟩ := Int.eq_ofNat_of_zero_le (Int.le_of_lt q2)
      simp only [Int.toNat_natCast] at HMK HRc HIc q3
      have fl := Er.out.fb.lt
      have fc := Er.out.fb.c0
      have hwb : base ≤ wr.heap.size := Nat.le_trans hW Gr.out.kept.size
      have hs9 := hwb
      have hH : H0 ≤ wr.heap.size := by have := LL.out.t0; have := LL.out.t1; omega
      have hSw : ¬ S wr.heap.size := fun hs => by have := LL.out.sh _ hs; omega
      have hRw : some wr.heap.size ≠ v.ownBlock := fun e => by have := own_in Gr.out.own _ e.symm; omega
      go_wp2_with fail
      go_region_held3 (fun w' => w'.cell? ⟨pf, 0, none⟩ = some (.func (.func 151) #[] #[.pointer (some ⟨pv, 0, none⟩), .pointer (some ⟨pt, 0, none⟩), .pointer (some ⟨pf, 0, none⟩)]) ∧ w'.cell? ⟨wr.heap.size, 0, none⟩ = some (.string x) ∧ w'.cell? ⟨wr.heap.size, 1, none⟩ = some (.int .i64 (n2 : Int)))
        (first | go_keep | exact ⟨kf, k0, k1⟩)
        (first
          | (refine step_put1 (by rfl) (.tmp 25) (.tmp 28) (by rfl) base v xs.length (xs.map Value.string) (by simp [Act.eval]) (own_below Gr.out.own ((((Below.refl wr.heap.size wr).alloc (Nat.le_refl _) _).alloc (by first | omega | (simp; done) | (simp; omega)) _).drew)) (wr.heap.size + 1) x (by simp [Act.eval]) (by simp) (by omega) (by first | omega | (simp; done) | (simp; omega)) ?_; intro g1 cap1 y1 P1; have hy := ((((Below.refl wr.heap.size wr).alloc (Nat.le_refl _) (.cells #[.string x, .int .i64 (n2 : Int)] 93)).alloc (by first | omega | (simp; done) | (simp; omega)) (.cells #[.string x] 9)).drew); have KA : Kept S v.ownBlock wr y1 := (Kept.of_below hy).trans (Kept.of_grown P1.grown); have E2 := Er.out.kept KA LL.out HRW.out; have D2 := (((DB.new wr x (n2 : Int) 93).alloc (.cells #[.string x] 9)).drew).kept (S := S) (Kept.of_grown P1.grown) hSw hRw; have kf := E2.fb.c0; have k0 := D2.c0; have k1 := D2.c1; have s2 := KA.size; have hgw : g1 ≠ wr.heap.size := by (rcases P1.at_ with h9 | h9; exact fun e => hRw (by rw [h9, e]; rfl); exact fun e => by have := h9.1; simp [World.drew] at this; omega))
          | (go_at_call 151; refine (HIc.out y1 _ (.slice (some ⟨g1, 0, none⟩) (xs.length + 1) cap1) E2 (Nat.le_trans hwb s2) (V.keep wr y1 _ Gr.out.inv ((hy.mono hH).grown P1.grown (by first | omega | (simp; done) | (simp; omega)) (fun q hq => by have := HRW.out q hq; have := LL.out.t0; have := LL.out.t1; omega))) (by simpa using P1.own)).mono ?_; rintro e y2 ⟨rfl, G2⟩; have K2 : Kept S (some g1) y1 y2 := G2.kept; have E3 := E2.kept K2 LL.out (fun q hq => by injection hq with hq; subst hq; exact own_low P1.own _ rfl); have D3 := D2.kept K2 hSw (fun e => by injection e with e; exact hgw e.symm); have kf := E3.fb.c0; have k0 := D3.c0; have k1 := D3.c1)
          | ((trace_state; fail)))
      all_goals
        have KF : Kept S v.ownBlock wr y2 := KA.since K2 (fun q hq => by injection hq with hq; subst hq; rcases P1.at_ with h9 | h9; exact .inl (by rw [h9]; rfl); exact .inr (by have := h9.1; simp [World.drew] at this; omega))
        have EF := Lib.hid (Er.out.kept KF LL.out HRW.out)
        have GF : Went S Inv base v xs (mid_ step t xs es (step s (xs, n)) (k + 1)) W y2 := ⟨by rw [HMK.out]; exact G2.inv, Gr.out.kept.trans KF, own_after Gr.out.own hy P1 (fun q hq => by have := LL.out.sh q hq; have := LL.out.t0; have := LL.out.t1; omega) K2 (by simpa using G2.own)⟩
        have GG := Lib.hid GF
        clear KF GF E2 E3 D2 D3 G2 K2 P1 hy KA kf k0 k1
        go_wp2
        go_roundg (m - (k + 1))
        case measure => omega
        case rel => exact ⟨k + 1, by omega, by omega, by go_num, EF.out, GG.out⟩
    · obtain rfl : k = m := by omega
      have GE := Lib.hid Gr.out
      go_wp2
      go_end0
      exact ⟨rfl, by rw [← HME.out]; exact GE.out⟩

end Go.Proofs.YtmbbmmnpkdfecaaGreatDoor

/- The function that fieldCheck returns, at every inode. Conditions: the tree's cells lie in memory as they read. -/

set_option linter.all false
namespace Go.Proofs.YtmbbmmnpkdfecaaGreatDoor
open Go.RowKit

theorem NodC.new (w : World) (x : Nod) (ve vd va vx : Value) (t : TypeId) : NodC (w.alloc (.cells #[.int .i64 x.k, .int .i64 x.o, ve, vd, va, vx, .int .i64 x.q, .int .i64 x.v] t)) w.heap.size 0 ve vd va vx x :=
  ⟨by simp, by simp, by simp, by simp, by simp, by simp, by simp, by simp⟩
theorem NodC.below {w w' : World} {B b o : Nat} {ve vd va vx : Value} {x : Nod} (h : NodC w b o ve vd va vx x) (hb : Below B w w') (hB : b < B) : NodC w' b o ve vd va vx x :=
  h.keep fun o => hb.cell (p := ⟨b, o, none⟩) hB

/-- What holds all through the region: memory below is as it was, the inode's copy and the tree lie there. -/
structure RS (w y : World) (nb pt : Nat) (tv : Value) (ve vd va vx : Value) (x : Nod) : Prop where
  b : Below w.heap.size w y
  lt : nb < y.heap.size
  n : NodC y nb 0 ve vd va vx x
  t : One y pt tv
theorem RS.step {w y z : World} {nb pt : Nat} {tv ve vd va vx : Value} {x : Nod} (h : RS w y nb pt tv ve vd va vx x) (hb : Below y.heap.size y z) : RS w z nb pt tv ve vd va vx x :=
  ⟨h.b.trans (hb.mono h.b.size), Nat.lt_of_lt_of_le h.lt hb.size, h.n.below hb h.lt, h.t.below hb h.t.lt⟩
theorem RS.alloc {w y : World} {nb pt : Nat} {tv ve vd va vx : Value} {x : Nod} (h : RS w y nb pt tv ve vd va vx x) (o : Obj) : RS w (y.alloc o) nb pt tv ve vd va vx x :=
  h.step ((Below.refl _ _).alloc (Nat.le_refl _) o)
theorem RS.drew {w y : World} {nb pt : Nat} {tv ve vd va vx : Value} {x : Nod} (h : RS w y nb pt tv ve vd va vx x) : RS w y.drew nb pt tv ve vd va vx x :=
  h.step (Below.refl _ _).drew
theorem RS.full {w y : World} {nb pt : Nat} {tv ve vd va vx : Value} {x : Nod} (h : RS w y nb pt tv ve vd va vx x) :
    RS w y nb pt tv ve vd va vx x ∧ y.cell? ⟨nb, 0, none⟩ = some (.int .i64 x.k) ∧ y.cell? ⟨nb, 1, none⟩ = some (.int .i64 x.o) ∧ y.cell? ⟨nb, 2, none⟩ = some ve ∧ y.cell? ⟨nb, 3, none⟩ = some vd ∧ y.cell? ⟨nb, 4, none⟩ = some va ∧ y.cell? ⟨nb, 5, none⟩ = some vx ∧ y.cell? ⟨nb, 6, none⟩ = some (.int .i64 x.q) ∧ y.cell? ⟨nb, 7, none⟩ = some (.int .i64 x.v) ∧ y.cell? ⟨pt, 0, none⟩ = some tv := by
  have h1 := h.n.c1; have h2 := h.n.c2; have h3 := h.n.c3; have h4 := h.n.c4; have h5 := h.n.c5; have h6 := h.n.c6; have h7 := h.n.c7
  simp only [Nat.zero_add] at h1 h2 h3 h4 h5 h6 h7
  exact ⟨h, h.n.c0, h1, h2, h3, h4, h5, h6, h7, h.t.c0⟩

set_option maxRecDepth 100000 in
set_option maxHeartbeats 4000000 in
theorem fieldCheck1_any (a : Option Addr) (c : Nat) (t : Tr) (n pt : Nat) (w : World) (h : Nods w w.heap.size a c t) (hp : One w pt (.slice a t.length c)) (hn : n < t.length) :
    Calls Tryz.prog 100 #[.int .i64 (n : Int), .pointer (some ⟨pt, 0, none⟩)] w fun e w' => e = .returned (.int .i64 (codeN t (nod t n))) ∧ Below w.heap.size w w' := by
  obtain ⟨b, o, ve, vd, va, vx, rfl, hb, hc, hs⟩ := h.one hn
  obtain ⟨ea, ec, rfl⟩ : ∃ ea ec, ve = .slice ea (nod t n).es.length ec := by obtain ⟨ea, ec, e, _⟩ := hs.es; exact ⟨ea, ec, e⟩
  obtain ⟨da, dc, rfl⟩ : ∃ da dc, vd = .slice da (nod t n).dl dc := by obtain ⟨da, dc, e, _⟩ := hs.dl; exact ⟨da, dc, e⟩
  obtain ⟨aa, acp, rfl⟩ : ∃ aa ac, va = .slice aa (nod t n).ac.length ac := by obtain ⟨da, dc, e, _⟩ := hs.ac; exact ⟨da, dc, e⟩
  obtain ⟨xa, xc, rfl⟩ : ∃ xa xc, vx = .slice xa (nod t n).xs.length xc := by obtain ⟨da, dc, e, _⟩ := hs.xs; exact ⟨da, dc, e⟩
  have nlz : (n : Int) < (t.length : Int) := by omega
  have nz : (0 : Int) ≤ (n : Int) := Int.natCast_nonneg _
  have HN := Lib.hid (show codeN t (nod t n) = if (nod t n).k = 0 then codeF (nod t n) else if (nod t n).k = 1 ∨ (nod t n).k = 2 then or4 (codeC (nod t n)) (valF (nod t n).ac).1 (valA (nod t n).xs).1 (codeEs t (nod t n).es) else 4 from rfl)
  have D1 := Lib.hid (fun W (hb : Below w.heap.size w W) => checkFree_any (nod t n) _ _ _ _ W (hs.up hb))
  have D2 := Lib.hid (fun W (hb : Below w.heap.size w W) => checkContents_any (nod t n) _ _ _ _ W (hs.up hb))
  have D3 := Lib.hid (fun W (hb : Below w.heap.size w W) => validate_any _ (nod t n).ac W ((hs.up hb).ac))
  have D4 := Lib.hid (fun W (hb : Below w.heap.size w W) => xvalidate_any _ (nod t n).xs W ((hs.up hb).xs))
  have D5 := Lib.hid (fun W (hb : Below w.heap.size w W) => checkEntries_any (some ⟨b, o, none⟩) c t _ (nod t n).es W (h.up hb) ((hs.up hb).es))
  unfold valV faultV at D3
  unfold valAV faultV at D4
  have h0 := hc.c0
  have h1 := hc.c1
  have h2 := hc.c2
  have h3 := hc.c3
  have h4 := hc.c4
  have h5 := hc.c5
  have h6 := hc.c6
  have h7 := hc.c7
  have hpc := hp.c0
  have hpl := hp.lt
  have HR := Lib.hid (show RS w (w.alloc (.cells #[.int .i64 (nod t n).k, .int .i64 (nod t n).o, .slice ea (nod t n).es.length ec, .slice da (nod t n).dl dc, .slice aa (nod t n).ac.length acp, .slice xa (nod t n).xs.length xc, .int .i64 (nod t n).q, .int .i64 (nod t n).v] 63)) w.heap.size pt (.slice (some ⟨b, o, none⟩) t.length c) (.slice ea (nod t n).es.length ec) (.slice da (nod t n).dl dc) (.slice aa (nod t n).ac.length acp) (.slice xa (nod t n).xs.length xc) (nod t n) from
    ⟨(Below.refl _ _).alloc (Nat.le_refl _) _, by simp, NodC.new _ _ _ _ _ _ _, hp.alloc _⟩)
  clear hc hs h hp
  generalize codeN t (nod t n) = r at *
  generalize codeF (nod t n) = r1 at *
  generalize codeC (nod t n) = r2 at *
  generalize (valF (nod t n).ac).1 = r3 at *
  generalize (valF (nod t n).ac).2 = r3b at *
  generalize (valA (nod t n).xs).1 = r4 at *
  generalize (valA (nod t n).xs).2 = r4b at *
  generalize codeEs t (nod t n).es = r5 at *
  generalize nod t n = x at *
  obtain ⟨k, ow, es, dl, ac, xs, q, v⟩ := x
  simp only at *
  have hf3 := field_code r3 r3b
  have hf4 := field_code r4 r4b
  by_cases k0 : k = 0
  · subst k0
    rw [if_pos rfl] at HN
    go_enter Tryz.func100, Tryz.ntmps100
    go_wp2_with fail
    refine (D1.out _ ((Below.refl _ _).alloc (Nat.le_refl _) _)).mono ?_
    rintro e w2 ⟨rfl, hb2⟩
    have hB2 : Below w.heap.size w w2 := ((Below.refl _ _).alloc (Nat.le_refl _) _).trans (hb2.mono (by first | omega | (simp; done) | (simp; omega)))
    clear hb2
    go_wp2
    go_ret
    exact ⟨ret_int HN.out.symm, hB2⟩
  · have k1 : (k == 0) = false := by simpa using k0
    rw [if_neg k0] at HN
    by_cases k2 : k = 1 ∨ k = 2
    · rw [if_pos k2] at HN
      clear k0
      rcases k2 with rfl | rfl
      · go_enter Tryz.func100, Tryz.ntmps100
        go_wp2_with fail
        go_region_held3 (fun y => RS w y w.heap.size pt (.slice (some ⟨b, o, none⟩) t.length c) (.slice ea es.length ec) (.slice da dl dc) (.slice aa ac.length acp) (.slice xa xs.length xc) ⟨1, ow, es, dl, ac, xs, q, v⟩ ∧ y.cell? ⟨w.heap.size, 0, none⟩ = some (.int .i64 1) ∧ y.cell? ⟨w.heap.size, 1, none⟩ = some (.int .i64 ow) ∧ y.cell? ⟨w.heap.size, 2, none⟩ = some (.slice ea es.length ec) ∧ y.cell? ⟨w.heap.size, 3, none⟩ = some (.slice da dl dc) ∧ y.cell? ⟨w.heap.size, 4, none⟩ = some (.slice aa ac.length acp) ∧ y.cell? ⟨w.heap.size, 5, none⟩ = some (.slice xa xs.length xc) ∧ y.cell? ⟨w.heap.size, 6, none⟩ = some (.int .i64 q) ∧ y.cell? ⟨w.heap.size, 7, none⟩ = some (.int .i64 v) ∧ y.cell? ⟨pt, 0, none⟩ = some (.slice (some ⟨b, o, none⟩) t.length c))
          (first | exact RS.full hR | exact RS.full HR.out.drew | exact RS.full (RS.alloc (And.left ‹RS w _ w.heap.size pt _ _ _ _ _ _ ∧ _›) _))
          (first
            | (go_at_call 103; have hs0 := And.left ‹RS w _ w.heap.size pt _ _ _ _ _ _ ∧ _›; refine (D2.out _ hs0.b).mono ?_; rintro e y ⟨rfl, hb⟩; have hR := hs0.step hb)
            | (go_at_call 104; have hs0 := And.left ‹RS w _ w.heap.size pt _ _ _ _ _ _ ∧ _›; refine (D3.out _ hs0.b).mono ?_; rintro e y ⟨rfl, hb⟩; have hR := hs0.step hb)
            | (go_at_call 105; have hs0 := And.left ‹RS w _ w.heap.size pt _ _ _ _ _ _ ∧ _›; refine (D4.out _ hs0.b).mono ?_; rintro e y ⟨rfl, hb⟩; have hR := hs0.step hb)
            | (go_at_call 106; have hs0 := And.left ‹RS w _ w.heap.size pt _ _ _ _ _ _ ∧ _›; refine (D5.out _ hs0.b).mono ?_; rintro e y ⟨rfl, hb⟩; have hR := hs0.step hb)
            | (go_at_call 102; have hR := And.left ‹RS w _ w.heap.size pt _ _ _ _ _ _ ∧ _›; refine (or4_any r2 r3 r4 r5 _ _ (by simp) (by simp) (by simp) (by simp) (by simp)).mono ?_; rintro e y ⟨rfl, rfl⟩))
        all_goals
          have hz := And.left ‹RS w _ w.heap.size pt _ _ _ _ _ _ ∧ _›
          go_wp2
          go_ret
          exact ⟨ret_int HN.out.symm, hz.b⟩
      · go_enter Tryz.func100, Tryz.ntmps100
        go_wp2_with fail
        go_region_held3 (fun y => RS w y w.heap.size pt (.slice (some ⟨b, o, none⟩) t.length c) (.slice ea es.length ec) (.slice da dl dc) (.slice aa ac.length acp) (.slice xa xs.length xc) ⟨2, ow, es, dl, ac, xs, q, v⟩ ∧ y.cell? ⟨w.heap.size, 0, none⟩ = some (.int .i64 2) ∧ y.cell? ⟨w.heap.size, 1, none⟩ = some (.int .i64 ow) ∧ y.cell? ⟨w.heap.size, 2, none⟩ = some (.slice ea es.length ec) ∧ y.cell? ⟨w.heap.size, 3, none⟩ = some (.slice da dl dc) ∧ y.cell? ⟨w.heap.size, 4, none⟩ = some (.slice aa ac.length acp) ∧ y.cell? ⟨w.heap.size, 5, none⟩ = some (.slice xa xs.length xc) ∧ y.cell? ⟨w.heap.size, 6, none⟩ = some (.int .i64 q) ∧ y.cell? ⟨w.heap.size, 7, none⟩ = some (.int .i64 v) ∧ y.cell? ⟨pt, 0, none⟩ = some (.slice (some ⟨b, o, none⟩) t.length c))
          (first | exact RS.full hR | exact RS.full HR.out.drew | exact RS.full (RS.alloc (And.left ‹RS w _ w.heap.size pt _ _ _ _ _ _ ∧ _›) _))
          (first
            | (go_at_call 103; have hs0 := And.left ‹RS w _ w.heap.size pt _ _ _ _ _ _ ∧ _›; refine (D2.out _ hs0.b).mono ?_; rintro e y ⟨rfl, hb⟩; have hR := hs0.step hb)
            | (go_at_call 104; have hs0 := And.left ‹RS w _ w.heap.size pt _ _ _ _ _ _ ∧ _›; refine (D3.out _ hs0.b).mono ?_; rintro e y ⟨rfl, hb⟩; have hR := hs0.step hb)
            | (go_at_call 105; have hs0 := And.left ‹RS w _ w.heap.size pt _ _ _ _ _ _ ∧ _›; refine (D4.out _ hs0.b).mono ?_; rintro e y ⟨rfl, hb⟩; have hR := hs0.step hb)
            | (go_at_call 106; have hs0 := And.left ‹RS w _ w.heap.size pt _ _ _ _ _ _ ∧ _›; refine (D5.out _ hs0.b).mono ?_; rintro e y ⟨rfl, hb⟩; have hR := hs0.step hb)
            | (go_at_call 102; have hR := And.left ‹RS w _ w.heap.size pt _ _ _ _ _ _ ∧ _›; refine (or4_any r2 r3 r4 r5 _ _ (by simp) (by simp) (by simp) (by simp) (by simp)).mono ?_; rintro e y ⟨rfl, rfl⟩))
        all_goals
          have hz := And.left ‹RS w _ w.heap.size pt _ _ _ _ _ _ ∧ _›
          go_wp2
          go_ret
          exact ⟨ret_int HN.out.symm, hz.b⟩
    · rw [if_neg k2] at HN
      have k3 : (k == 1) = false := by have : k ≠ 1 := fun e => k2 (.inl e); simpa using this
      have k4 : (k == 2) = false := by have : k ≠ 2 := fun e => k2 (.inr e); simpa using this
      clear k0 k2
      go_enter Tryz.func100, Tryz.ntmps100
      go_wp2
      go_ret
      exact ⟨ret_int HN.out.symm, (Below.refl _ _).alloc (Nat.le_refl _) _⟩

end Go.Proofs.YtmbbmmnpkdfecaaGreatDoor

/- Trees with their files' bytes as lists of inodes, in plain words: entries put and taken, inodes changed, made, freed; what stays valid. No program. -/

set_option linter.all false
namespace Go.Proofs.YtmbbmmnpkdfecaaGreatDoor
open Go.RowKit

/-! ## Inodes with their bytes -/
structure Ino where
  k : Int
  o : Int
  es : List DE
  d : List UInt8
  ac : List Ent
  xs : List Attr
  q : Int
  v : Int
abbrev I0 : Ino := ⟨0, 0, [], [], [], [], 0, 0⟩
def Ino.nod (x : Ino) : Nod := ⟨x.k, x.o, x.es, x.d.length, x.ac, x.xs, x.q, x.v⟩
abbrev FT := List Ino
def ino (t : FT) (n : Nat) : Ino := t.getD n I0
def tr (t : FT) : Tr := t.map Ino.nod
theorem ino_at {t : FT} {n : Nat} (h : n < t.length) : ino t n = t[n] := by
  unfold ino; rw [List.getD_eq_getElem?_getD, List.getElem?_eq_getElem h]; rfl
theorem ino_past {t : FT} {n : Nat} (h : t.length ≤ n) : ino t n = I0 := by
  unfold ino; rw [List.getD_eq_getElem?_getD, List.getElem?_eq_none h]; rfl
@[simp] theorem tr_len (t : FT) : (tr t).length = t.length := by simp [tr]
theorem nod_tr (t : FT) (n : Nat) : nod (tr t) n = (ino t n).nod := by
  rcases Nat.lt_or_ge n t.length with h | h
  · rw [nod_at (by simpa using h), ino_at h]; simp [tr]
  · rw [nod_past (by simpa using h), ino_past h]; rfl
theorem kids_tr (t : FT) (n : Nat) : kids (tr t) n = (ino t n).es := by unfold kids; rw [nod_tr]; rfl
theorem ino_set {t : FT} {n : Nat} {x : Ino} (hn : n < t.length) (m : Nat) : ino (t.set n x) m = if m = n then x else ino t m := by
  unfold ino
  rw [List.getD_eq_getElem?_getD, List.getElem?_set, List.getD_eq_getElem?_getD]
  by_cases h : m = n
  · subst h; simp [hn]
  · have h2 : ¬ n = m := fun e => h e.symm
    simp [h, h2]
/-- Inode n changed by f. -/
def chI (t : FT) (n : Nat) (f : Ino → Ino) : FT := t.set n (f (ino t n))
@[simp] theorem chI_len (t : FT) (n : Nat) (f : Ino → Ino) : (chI t n f).length = t.length := by simp [chI]
theorem ino_chI {t : FT} {n : Nat} (f : Ino → Ino) (hn : n < t.length) (m : Nat) : ino (chI t n f) m = if m = n then f (ino t n) else ino t m := ino_set hn m

/-! ## Entries put and taken -/
def insE (es : List DE) (e : DE) : List DE := es.take (lowE es e.n) ++ e :: es.drop (lowE es e.n)
def delE (es : List DE) (nm : ByteArray) : List DE := es.take (lowE es nm) ++ es.drop (lowE es nm + 1)
def lookE (es : List DE) (nm : ByteArray) : Int := if fndE es nm = true then (es.getD (lowE es nm) D0).i else -1
theorem insE_perm (es : List DE) (e : DE) : (insE es e).Perm (e :: es) := by
  unfold insE
  have := List.perm_middle (a := e) (l₁ := es.take (lowE es e.n)) (l₂ := es.drop (lowE es e.n))
  rwa [List.take_append_drop] at this
theorem insE_len (es : List DE) (e : DE) : (insE es e).length = es.length + 1 := (insE_perm es e).length_eq
theorem take_mem_at {es : List DE} {n : Nat} {x : DE} (h : x ∈ es.take n) : ∃ j, j < n ∧ j < es.length ∧ es.getD j D0 = x := by
  obtain ⟨j, hj, rfl⟩ := List.mem_iff_getElem.1 h
  have hj2 : j < n ∧ j < es.length := by simp at hj; omega
  exact ⟨j, hj2.1, hj2.2, by rw [deD hj2.2, List.getElem_take]⟩
theorem drop_mem_at {es : List DE} {n : Nat} {x : DE} (h : x ∈ es.drop n) : ∃ j, n ≤ j ∧ j < es.length ∧ es.getD j D0 = x := by
  obtain ⟨j, hj, rfl⟩ := List.mem_iff_getElem.1 h
  have hj2 : n + j < es.length := by simp at hj; omega
  exact ⟨n + j, by omega, hj2, by rw [deD hj2, List.getElem_drop]⟩
theorem insE_srt {es : List DE} {e : DE} (h : SrtE es) (hf : fndE es e.n = false) : SrtE (insE es e) := by
  unfold insE SrtE
  obtain ⟨h1, h2⟩ := lowE_lo h e.n
  have h3 : ∀ x ∈ es.drop (lowE es e.n), ltS e.n x.n = true := by
    intro x hx
    obtain ⟨j, hj, hl, rfl⟩ := drop_mem_at hx
    refine ltS_of (h2 j hj hl) ?_
    exact (found_iff h).2 hf _ (deD_mem hl)
  rw [List.pairwise_append]
  refine ⟨List.Pairwise.sublist (List.take_sublist _ _) h, List.pairwise_cons.2 ⟨h3, List.Pairwise.sublist (List.drop_sublist _ _) h⟩, ?_⟩
  intro a ha b hb
  obtain ⟨j, hj, hl, rfl⟩ := take_mem_at ha
  have ha2 := h1 j hj
  rcases List.mem_cons.1 hb with rfl | hb
  · exact ha2
  · exact ltS_trans ha2 (h3 b hb)
theorem delE_perm {es : List DE} {nm : ByteArray} (hf : fndE es nm = true) : es.Perm (es.getD (lowE es nm) D0 :: delE es nm) := by
  have hl := (fndE_iff.1 hf).1
  unfold delE
  have h1 := List.perm_middle (a := es.getD (lowE es nm) D0) (l₁ := es.take (lowE es nm)) (l₂ := es.drop (lowE es nm + 1))
  have h2 : es.take (lowE es nm) ++ es.getD (lowE es nm) D0 :: es.drop (lowE es nm + 1) = es := by
    rw [deD hl, ← List.drop_eq_getElem_cons hl, List.take_append_drop]
  rwa [h2] at h1
theorem delE_srt {es : List DE} (h : SrtE es) (nm : ByteArray) : SrtE (delE es nm) := by
  unfold delE SrtE
  refine List.Pairwise.sublist ?_ h
  have h1 : (es.drop (lowE es nm + 1)).Sublist (es.drop (lowE es nm)) := by
    rw [← List.drop_drop]; exact List.drop_sublist _ _
  have h2 := List.Sublist.append (List.Sublist.refl (es.take (lowE es nm))) h1
  rwa [List.take_append_drop] at h2
theorem delE_len {es : List DE} {nm : ByteArray} (hf : fndE es nm = true) : (delE es nm).length + 1 = es.length := by
  have := (delE_perm hf).length_eq
  simpa using this.symm
theorem delE_fnd {es : List DE} (h : SrtE es) {nm : ByteArray} : fndE (delE es nm) nm = false := by
  cases hf : fndE (delE es nm) nm with
  | false => rfl
  | true =>
    obtain ⟨h1, h2⟩ := (found_iff (delE_srt h nm)).1 hf
    exfalso
    generalize (delE es nm).getD (lowE (delE es nm) nm) D0 = x at h1 h2
    unfold delE at h1
    obtain ⟨a1, a2⟩ := lowE_lo h nm
    rcases List.mem_append.1 h1 with h3 | h3
    · obtain ⟨j, hj, hl, rfl⟩ := take_mem_at h3
      exact ltS_ne (a1 j hj) h2
    · obtain ⟨j, hj, hl, rfl⟩ := drop_mem_at h3
      have h5 := a2 (lowE es nm) (Nat.le_refl _) (by omega)
      have h6 := srtE_at h (i := lowE es nm) (j := j) (by omega) hl
      rw [h2] at h6
      rw [h6] at h5; cases h5
theorem fnd_mem {es : List DE} (h : SrtE es) {e : DE} (he : e ∈ es) : fndE es e.n = true ∧ es.getD (lowE es e.n) D0 = e := by
  cases hf : fndE es e.n with
  | false => exact absurd rfl ((found_iff h).2 hf e he)
  | true =>
    obtain ⟨h1, h2⟩ := (found_iff h).1 hf
    exact ⟨rfl, entry_same h h1 he h2⟩
theorem fnd_none {es : List DE} (h : SrtE es) {nm : ByteArray} : fndE es nm = false ↔ ∀ e ∈ es, e.n ≠ nm := by
  constructor
  · exact (found_iff h).2
  · intro hh
    cases hf : fndE es nm with
    | false => rfl
    | true => obtain ⟨h1, h2⟩ := (found_iff h).1 hf; exact absurd h2 (hh _ h1)
theorem lookE_mem {es : List DE} (h : SrtE es) {e : DE} (he : e ∈ es) : lookE es e.n = e.i := by
  obtain ⟨h1, h2⟩ := fnd_mem h he
  unfold lookE; rw [if_pos h1, h2]

end Go.Proofs.YtmbbmmnpkdfecaaGreatDoor

/- walk at any start and any function that it visits with. Conditions: as follow_any. -/

set_option linter.all false
namespace Go.Proofs.YtmbbmmnpkdfecaaGreatDoor
open Go.RowKit

theorem One.put {w : World} {n : Nat} {v : Value} (h : One w n v) (u : Value) : One (w.setCell ⟨n, 0, none⟩ u) n u :=
  ⟨by simpa using h.lt, World.cell?_setCell_same _ _ _ h.c0, by simpa using h.f0⟩

set_option maxRecDepth 100000 in
set_option maxHeartbeats 2000000 in
theorem walk_any {σ : Type} {t : Tr} {s0 : Nat} {g : FuncId} {caps : Array Value} {S : Nat → Prop} {H0 : Nat} {Inv : World → σ → Prop} {step : σ → Vis → σ} (V : Visitor t s0 g caps S H0 Inv step)
    (h1 : Ok1 t) (fr : From t s0) {Bt : Nat} (hBt : Bt ≤ H0) (hSB : ∀ b, S b → Bt ≤ b) (a : Option Addr) (c : Nat) (W : World) (s : σ) (hn : Nods W Bt a c t) (hH : H0 ≤ W.heap.size) (hI : Inv W s) :
    Calls Tryz.prog 108 #[.agg #[.slice a t.length c], .int .i64 (s0 : Int), .func (.func g) #[] caps] W fun e W' => e = .returned (.tuple #[]) ∧ Inv W' ((visits t s0).foldl step s) ∧ Kept S none W W' := by
  have eg := V.eg
  have eg2 : ∀ args w, (callFunc 151 args).run Tryz.prog w = .ok (.enter 151 args) w := enters_of Tryz.func151 (by kernel_rfl) rfl
  have HF := Lib.hid (fun base pt pv pf (L : Lay S H0 pt pv pf Bt base) => follow_any V h1 fr L a c [] s0 .nil)
  have LL := Lib.hid (show Lay S H0 W.heap.size (W.heap.size + 1) (W.heap.size + 1 + 1) Bt (W.heap.size + 3) from ⟨hBt, hSB, V.low, hH, by omega, by omega, by omega, by omega, by omega⟩)
  have HN := Lib.hid hn
  clear hn
  go_enter Tryz.func108, Tryz.ntmps108
  go_wp2_with fail
  have B3 := (((Below.refl W.heap.size W).alloc (Nat.le_refl _) (.cells #[.slice a t.length c] 24)).alloc (by first | omega | (simp; done) | (simp; omega)) (.cells #[.func (.func g) #[] caps] 149)).alloc (by first | omega | (simp; done) | (simp; omega)) (.cells #[.func (.func 151) #[] #[.pointer (some ⟨W.heap.size + 1, 0, none⟩), .pointer (some ⟨W.heap.size, 0, none⟩), .pointer (some ⟨W.heap.size + 1 + 1, 0, none⟩)]] 149)
  refine (HF.out _ _ _ _ LL.out _ s (.slice none 0 0) ⟨((One.new W _ _).alloc _).alloc _, ((One.new (W.alloc _) _ _).alloc _).at_ (by simp), (One.new ((W.alloc _).alloc _) _ _).at_ (by simp), HN.out.below (B3.mono (by omega))⟩ (by simp) (V.keep _ _ _ hI (B3.mono hH)) (World.ownsRow_nil _ _ _ _)).mono ?_
  rintro e W' ⟨rfl, G⟩
  have K : Kept S none W W' := (Kept.of_below B3).trans G.kept
  have I := G.inv
  clear G B3
  go_wp2
  go_end0
  exact ⟨rfl, I, K⟩

end Go.Proofs.YtmbbmmnpkdfecaaGreatDoor

/- What an argument of type []byte, api.Request or []api.Request reads as: bytes, a request, requests. No condition: every such value that a machine can hold. -/

set_option linter.all false
namespace Go.Proofs.YtmbbmmnpkdfecaaGreatDoor
open Go.ChangeShapes Go.WideShapes Go.ChangeAt Go.RowKit Go.Deep

theorem u8_bytes1 : Tryz.prog.bytesOf 5 = 1 := by kernel_rfl
theorem u8_cells1 : Tryz.prog.cellsOf 5 = 1 := by kernel_rfl
theorem u8_ofInt (n : Int) (h0 : 0 ≤ n) (h1 : n ≤ 255) : ((UInt8.ofNat n.toNat).toNat : Int) = n := by
  have : (UInt8.ofNat n.toNat).toNat = n.toNat % 256 := by simp
  omega
theorem rq_under : Tryz.prog.underlying 30 = some (.struct (Tryz.prog.fieldsOf 30)) := by kernel_rfl
theorem rq_fields : (Tryz.prog.fieldsOf 30).map (fun f => (f.type, f.offset)) = #[(3, 0), (3, 1), (9, 2), (9, 3), (3, 4), (3, 5), (25, 6), (26, 7), (28, 8)] := by kernel_rfl
theorem rq_cells10 : Tryz.prog.cellsOf 30 = 10 := by kernel_rfl
theorem rqa_cells : Tryz.prog.cellsOf 26 = 1 := by kernel_rfl
theorem rqb_cells : Tryz.prog.cellsOf 25 = 1 := by kernel_rfl
theorem rqs_cells : Tryz.prog.cellsOf 9 = 1 := by kernel_rfl
theorem rqt_cells : Tryz.prog.cellsOf 28 = 2 := by kernel_rfl
theorem ten_of {cs : List Value} (h : cs.length = 10) : ∃ c0 c1 c2 c3 c4 c5 c6 c7 c8 c9, cs = [c0, c1, c2, c3, c4, c5, c6, c7, c8, c9] := by
  match cs, h with
  | [c0, c1, c2, c3, c4, c5, c6, c7, c8, c9], _ => exact ⟨c0, c1, c2, c3, c4, c5, c6, c7, c8, c9, rfl⟩

section
variable {H : Type} {enc : TypeId × Value → H} {W : World}
set_option maxRecDepth 100000 in
theorem byts_of {fuel : Nat} {a : Option Addr} {len cap : Nat} {x : DataW H × List MemPlace}
    (hf : DataW.trod enc Tryz.prog W 0 (fun _ => true) true fuel 25 [.slice a len cap] = some x) (hw : Held Tryz.prog 25 x.1) : ∃ d, Byts W W.heap.size (.slice a len cap) d := by
  rcases open_slice Tryz.underlying25 hf with ⟨hcs, hx⟩ | ⟨ad, len', cap', m, n, D, Pl, hcs, _, hl, hm, hmm, hx, hi⟩
  · simp at hcs
    obtain ⟨rfl, rfl, rfl⟩ := hcs
    exact ⟨[], Byts.none_ _ _⟩
  · simp at hcs
    obtain ⟨rfl, rfl, rfl⟩ := hcs
    simp only [if_true] at hmm
    rw [hx] at hw
    have hr := hw.slice Tryz.underlying25
    rw [u8_bytes1, reach_num] at hr
    simp only [List.length_map, List.length_range] at hr
    have key : ∀ i, i < len → ∃ n : Int, W.cell? (ad.add i) = some (.int .u8 n) ∧ 0 ≤ n ∧ n ≤ 255 := by
      intro i hil
      obtain ⟨cs, hc, ht⟩ := hi i (by omega)
      rw [u8_cells1] at hc
      obtain ⟨_, hcl, hat⟩ := World.cells?_some hc
      have h0 := hat 0 (by omega)
      rw [Go.Deep.add_add] at h0
      obtain ⟨k, hk, _, fk⟩ := DataW.trod_int Tryz.underlying5 ht
      subst hk
      obtain ⟨z0, z1⟩ := wf_u8 fk
      refine ⟨k, ?_, z0, z1⟩
      simpa using h0
    refine ⟨(List.range len).map (fun i => UInt8.ofNat (intOf ((W.cell? (ad.add i)).getD undef)).toNat), ⟨some ad, cap, by simp, by simp; omega, by simp; omega, fun hp0 => ?_⟩⟩
    have hp : 0 < len := by simpa using hp0
    clear hp0
    obtain ⟨b, off, spot⟩ := ad
    obtain ⟨n0, hc0, _⟩ := key 0 hp
    have hspot : spot = none := by simpa [Addr.add] using World.cell?_spot hc0
    subst hspot
    have hlt : b < W.heap.size := by have := cell_lt hc0; simpa [Addr.add] using this
    refine ⟨b, off, rfl, hlt, fun j hj => ?_⟩
    have hj : j < len := by simpa using hj
    obtain ⟨n0, h0, z0, z1⟩ := key j hj
    have e : ((List.range len).map (fun i => UInt8.ofNat (intOf ((W.cell? ((⟨b, off, none⟩ : Addr).add i)).getD undef)).toNat)).getD j 0 = UInt8.ofNat n0.toNat := by
      rw [List.getD_eq_getElem?_getD, List.getElem?_eq_getElem (by simpa using hj)]
      simp [h0, intOf]
    rw [e, u8_ofInt n0 z0 z1]
    rw [add_plain] at h0
    exact h0

theorem attr2_of {n : Nat} {cs : List Value} {y : DataW H × List MemPlace}
    (h : DataW.trod enc Tryz.prog W 0 (fun _ => true) true n 28 cs = some y) : ∃ (x z : ByteArray), cs = [.string x, .string z] ∧ x.size ≤ maxLen ∧ z.size ≤ maxLen := attr_of h

set_option maxRecDepth 100000 in
/-- Ten cells that read as a request. -/
theorem rq_of {n : Nat} {cs : List Value} {y : DataW H × List MemPlace}
    (h : DataW.trod enc Tryz.prog W 0 (fun _ => true) true n 30 cs = some y) (hw : Held Tryz.prog 30 y.1) :
    ∃ vd va r, cs = [.int .i64 r.k, .int .i64 r.u, .string r.p, .string r.t, .int .i64 r.off, .int .i64 r.sz, vd, va, .string r.a.n, .string r.a.v] ∧ RqS W W.heap.size vd va r := by
  obtain ⟨xs, n', _, _, hlen, _, _⟩ := DataW.trod_struct rq_under h
  rw [rq_cells10] at hlen
  obtain ⟨c0, c1, c2, c3, c4, c5, c6, c7, c8, c9, rfl⟩ := ten_of hlen
  obtain ⟨_, _, g0, _⟩ := trod_field rq_under rq_fields h (j := 0) (tj := 3) (oj := 0) rfl
  obtain ⟨_, _, g1, _⟩ := trod_field rq_under rq_fields h (j := 1) (tj := 3) (oj := 1) rfl
  obtain ⟨_, _, g2, _⟩ := trod_field rq_under rq_fields h (j := 2) (tj := 9) (oj := 2) rfl
  obtain ⟨_, _, g3, _⟩ := trod_field rq_under rq_fields h (j := 3) (tj := 9) (oj := 3) rfl
  obtain ⟨_, _, g4, _⟩ := trod_field rq_under rq_fields h (j := 4) (tj := 3) (oj := 4) rfl
  obtain ⟨_, _, g5, _⟩ := trod_field rq_under rq_fields h (j := 5) (tj := 3) (oj := 5) rfl
  obtain ⟨_, y6, g6, w6⟩ := trod_field rq_under rq_fields h (j := 6) (tj := 25) (oj := 6) rfl
  obtain ⟨_, y7, g7, w7⟩ := trod_field rq_under rq_fields h (j := 7) (tj := 26) (oj := 7) rfl
  obtain ⟨_, _, g8, _⟩ := trod_field rq_under rq_fields h (j := 8) (tj := 28) (oj := 8) rfl
  rw [int_cells] at g0 g1 g4 g5
  rw [rqs_cells] at g2 g3
  rw [rqb_cells] at g6
  rw [rqa_cells] at g7
  rw [rqt_cells] at g8
  replace w6 := w6 hw
  replace w7 := w7 hw
  obtain ⟨k, h0, _, f0⟩ := DataW.trod_int Tryz.underlying3 g0
  obtain ⟨u, h1, _, f1⟩ := DataW.trod_int Tryz.underlying3 g1
  obtain ⟨p, h2, _, f2⟩ := DataW.trod_string Tryz.underlying9 g2
  obtain ⟨t, h3, _, f3⟩ := DataW.trod_string Tryz.underlying9 g3
  obtain ⟨off, h4, _, f4⟩ := DataW.trod_int Tryz.underlying3 g4
  obtain ⟨sz, h5, _, f5⟩ := DataW.trod_int Tryz.underlying3 g5
  obtain ⟨an, av, h8, f8, f9⟩ := attr2_of g8
  simp only [List.drop_succ_cons, List.drop_zero, List.take_succ_cons, List.take_zero] at h0 h1 h2 h3 h4 h5 h8 g6 g7
  injection h0 with h0
  injection h1 with h1
  injection h2 with h2
  injection h3 with h3
  injection h4 with h4
  injection h5 with h5
  injection h8 with h8 h9
  injection h9 with h9
  subst h0 h1 h2 h3 h4 h5 h8 h9
  obtain ⟨a6, l6, p6, rfl⟩ := trod_slice_form Tryz.underlying25 g6
  obtain ⟨a7, l7, p7, rfl⟩ := trod_slice_form Tryz.underlying26 g7
  obtain ⟨d, hD⟩ := byts_of g6 w6
  obtain ⟨ac, hA, _⟩ := acls_of g7 (fun elems spare he => by
    rw [he] at w7
    have := w7.slice Tryz.underlying26
    rwa [ent_bytes, reach_num] at this)
  exact ⟨_, _, ⟨k, u, p, t, off, sz, d, ac, ⟨an, av⟩⟩, rfl, ⟨hD, hA, wf_int f0, wf_int f1, wf_int f4, wf_int f5, f2, f3, ⟨f8, f9⟩⟩⟩
end

end Go.Proofs.YtmbbmmnpkdfecaaGreatDoor
