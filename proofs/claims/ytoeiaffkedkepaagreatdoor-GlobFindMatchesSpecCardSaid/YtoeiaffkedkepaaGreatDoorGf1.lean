/- GlobFindMatchesSpec: for every tree and every pattern the law returns true.
   Condition: as each theorem states; this text: Kit, GlobPlain, GlobAll, GlobBytes, Fault, GlobText, PathLeaves, Shelf, PathName, PathComps, GlobComps, AttrPlain, AclInts, AclLeaves, AclSlice. -/
import Derived.WalkKit
import Derived.WalkSpells
import Derived.WalkLawsBesides
import Derived.Lib.Hide
import Derived.RegionTactic
import Derived.ChangeAlike
import Derived.Deep.LoopGhost
import Derived.Deep.Draws
import Derived.Test.YtoeiaffkedkepaaGreatDoorProg
import Derived.Shelf.Abstract
import Derived.BigQuiet
import Derived.Shelf.GgClosure.GivesRunes
import Derived.Shelf.Strings.OnBuilder
import Derived.Shelf.Small.Wraps
import Derived.Shelf.LaysM
import Derived.Shelf.Sort.Plain
import Derived.Ground.GgwProg
import Derived.Shelf.GgClosure.StringsIndexFuncTop
import Derived.Shelf.Strings.Prefix
import Derived.Shelf.Strings.Split
import Derived.Shelf.Strings.FieldsFuncAny
import Derived.Shelf.Slices.In.SortNone
import Derived.Lib.DecodeN
import Derived.Lib.Strings
import Derived.Lib.SlBy
import Derived.Deep.RegionHeld3
import Derived.Sort.EncStr
import Derived.Laws.BitsAllLaws

/- Small words on memory: a struct of two ints in a block of its own (a fault), kept over new blocks and over whatever leaves the blocks below it alone; sets of facts on one block. No condition beyond those that each theorem states. -/
namespace Go.Proofs.YtoeiaffkedkepaaGreatDoor
open Go.RowKit

theorem ret_bool {a b : Bool} (h : a = b) : Ending.returned (.bool a) = .returned (.bool b) := by rw [h]
theorem ret_int {k : IntKind} {a b : Int} (h : a = b) : Ending.returned (.int k a) = .returned (.int k b) := by rw [h]
theorem ret_str {a b : ByteArray} (h : a = b) : Ending.returned (.string a) = .returned (.string b) := by rw [h]

theorem bcell {W w1 : World} (hb : Below W.heap.size W w1) : (∀ b o, b < W.heap.size → w1.cell? ⟨b, o, none⟩ = W.cell? ⟨b, o, none⟩) ∧ (∀ b o, b < W.heap.size → w1.frozen? ⟨b, o, none⟩ = W.frozen? ⟨b, o, none⟩) :=
  ⟨fun b o h => hb.cell (p := ⟨b, o, none⟩) h, fun b o h => hb.frozen (p := ⟨b, o, none⟩) h⟩

/-- Block n holds a struct of two ints. -/
structure FBox (w : World) (n : Nat) (c i : Int) : Prop where
  lt : n < w.heap.size
  c0 : w.cell? ⟨n, 0, none⟩ = some (.int .i64 c)
  c1 : w.cell? ⟨n, 1, none⟩ = some (.int .i64 i)
  f0 : w.frozen? ⟨n, 0, none⟩ = false
  f1 : w.frozen? ⟨n, 1, none⟩ = false
theorem FBox.new (w : World) (c i : Int) (t : TypeId) : FBox (w.alloc (.cells #[.int .i64 c, .int .i64 i] t)) w.heap.size c i :=
  ⟨by simp, by simp, by simp, by simp, by simp⟩
theorem FBox.below {w w' : World} {B n : Nat} {c i : Int} (h : FBox w n c i) (hb : Below B w w') (hn : n < B) : FBox w' n c i :=
  ⟨Nat.lt_of_lt_of_le h.lt hb.size, (hb.cell (p := ⟨n, 0, none⟩) hn).trans h.c0, (hb.cell (p := ⟨n, 1, none⟩) hn).trans h.c1,
    (hb.frozen (p := ⟨n, 0, none⟩) hn).trans h.f0, (hb.frozen (p := ⟨n, 1, none⟩) hn).trans h.f1⟩
theorem FBox.alloc {w : World} {n : Nat} {c i : Int} (h : FBox w n c i) (o : Obj) : FBox (w.alloc o) n c i :=
  h.below ((Below.refl w.heap.size w).alloc (Nat.le_refl _) o) h.lt

theorem cell_lt {w : World} {a : Addr} {v : Value} (h : w.cell? a = some v) : a.block < w.heap.size := by
  rcases Nat.lt_or_ge a.block w.heap.size with hlt | hge
  · exact hlt
  · unfold World.cell? at h; rw [Array.getElem?_eq_none hge] at h; simp at h

end Go.Proofs.YtoeiaffkedkepaaGreatDoor

/- Matching a list of items against a list of elements, some of which are stars: the plain function, its laws, and the invariant of a search that goes back to the last star alone. Plain facts on lists; no condition beyond those that each theorem states. -/
namespace Go.Proofs.YtoeiaffkedkepaaGreatDoor
open Go.RowKit

/-- The elements match all the items. -/
def lm {α β : Type} (star : α → Bool) (fit : α → β → Bool) : List α → List β → Bool
  | [], bs => bs.isEmpty
  | a :: ea, bs => if star a then (List.range (bs.length + 1)).any (fun k => lm star fit ea (bs.drop k)) else
    match bs with
    | [] => false
    | b :: r => fit a b && lm star fit ea r

section
variable {α β : Type} {star : α → Bool} {fit : α → β → Bool}

theorem lm_nil {bs : List β} : lm star fit [] bs = true ↔ bs = [] := by
  show bs.isEmpty = true ↔ _; exact List.isEmpty_iff
theorem lm_star {a : α} {ea : List α} {bs : List β} (h : star a = true) : lm star fit (a :: ea) bs = true ↔ ∃ k, k ≤ bs.length ∧ lm star fit ea (bs.drop k) = true := by
  rw [lm.eq_def]; simp only [if_pos h]; rw [List.any_eq_true]
  constructor
  · rintro ⟨k, hk, hh⟩
    exact ⟨k, by have := List.mem_range.1 hk; omega, hh⟩
  · rintro ⟨k, hk, hh⟩
    exact ⟨k, List.mem_range.2 (by omega), hh⟩
theorem lm_none {a : α} {ea : List α} (h : star a = false) : lm star fit (a :: ea) [] = false := by
  rw [lm.eq_def]; simp [h]
theorem lm_one {a : α} {ea : List α} {b : β} {r : List β} (h : star a = false) : lm star fit (a :: ea) (b :: r) = (fit a b && lm star fit ea r) := by
  conv => lhs; rw [lm.eq_def]
  simp [h]

theorem lm_seg : ∀ (d : Nat) (ea : List α) (bs : List β), d ≤ ea.length → (∀ x e, x < d → ea[x]? = some e → star e = false) → lm star fit ea bs = true →
    d ≤ bs.length ∧ lm star fit (ea.drop d) (bs.drop d) = true
  | 0, _, _, _, _, h => ⟨Nat.zero_le _, h⟩
  | d + 1, [], _, hd, _, _ => by simp at hd
  | d + 1, a :: ea, bs, hd, hs, h => by
    have ha : star a = false := hs 0 a (by omega) rfl
    cases bs with
    | nil => rw [lm_none ha] at h; cases h
    | cons b r =>
      rw [lm_one ha, Bool.and_eq_true] at h
      have := lm_seg d ea r (by simpa using hd) (fun x e hx he => hs (x + 1) e (by omega) (by simpa using he)) h.2
      exact ⟨by have := this.1; simp; omega, by simpa using this.2⟩

/-- Where the search stands: at element i and item j; o: the element behind the last star, and where that star ends. -/
structure GI (star : α → Bool) (fit : α → β → Bool) (P : List α) (L : List β) (i j : Nat) (o : Option Nat) (se : Nat) : Prop where
  hi : i ≤ P.length
  hj : j ≤ L.length
  seg : ∀ a, o = some a → a ≤ i ∧ se + (i - a) = j ∧ ∀ x e, a ≤ x → x < i → P[x]? = some e → star e = false
  eqv : lm star fit P L = true ↔ (lm star fit (P.drop i) (L.drop j) = true ∨ ∃ a, o = some a ∧ ∃ k, se < k ∧ k ≤ L.length ∧ lm star fit (P.drop a) (L.drop k) = true)

theorem GI.start (P : List α) (L : List β) : GI star fit P L 0 0 none 0 :=
  ⟨Nat.zero_le _, Nat.zero_le _, fun _ h => (by cases h), ⟨fun h => .inl (by simpa using h), fun h => h.elim (fun h => by simpa using h) (fun ⟨_, h, _⟩ => by cases h)⟩⟩

theorem drop_at {γ : Type} {P : List γ} {i : Nat} (h : i < P.length) : P.drop i = P[i] :: P.drop (i + 1) := List.drop_eq_getElem_cons h

theorem GI.atStar {P : List α} {L : List β} {i j : Nat} {o : Option Nat} {se : Nat} (g : GI star fit P L i j o se) (h : i < P.length) (hs : star P[i] = true) :
    GI star fit P L (i + 1) j (some (i + 1)) j := by
  refine ⟨h, g.hj, fun a ha => ?_, ?_⟩
  · cases ha; exact ⟨Nat.le_refl _, by omega, fun x e h1 h2 => by omega⟩
  have hst : lm star fit (P.drop i) (L.drop j) = true ↔ ∃ k, k ≤ (L.drop j).length ∧ lm star fit (P.drop (i + 1)) ((L.drop j).drop k) = true := by
    rw [drop_at h]; exact lm_star hs
  have hst2 : lm star fit (P.drop i) (L.drop j) = true ↔ (lm star fit (P.drop (i + 1)) (L.drop j) = true ∨ ∃ a, some (i + 1) = some a ∧ ∃ k, j < k ∧ k ≤ L.length ∧ lm star fit (P.drop a) (L.drop k) = true) := by
    rw [hst]
    constructor
    · rintro ⟨k, hk, hh⟩
      rw [List.drop_drop] at hh
      rw [List.length_drop] at hk
      have hj := g.hj
      cases k with
      | zero => exact .inl (by simpa using hh)
      | succ k => exact .inr ⟨_, rfl, j + (k + 1), by omega, by omega, hh⟩
    · rintro (hh | ⟨a, ha, k, hk, hk2, hh⟩)
      · exact ⟨0, Nat.zero_le _, by simpa using hh⟩
      · cases ha
        exact ⟨k - j, by rw [List.length_drop]; omega, by rw [List.drop_drop, show j + (k - j) = k from by omega]; exact hh⟩
  rw [g.eqv, ← hst2]
  constructor
  · rintro (hh | ⟨a, ha, k, hk, hk2, hh⟩)
    · exact hh
    · obtain ⟨s1, s2, s3⟩ := g.seg a ha
      have hsg := lm_seg (star := star) (fit := fit) (i - a) (P.drop a) (L.drop k) (by rw [List.length_drop]; omega) (fun x e hx he => s3 (a + x) e (by omega) (by omega) (by rwa [List.getElem?_drop] at he)) hh
      rw [List.drop_drop, List.drop_drop, List.length_drop, show a + (i - a) = i from by omega] at hsg
      have h1 := hsg.1
      have hsg2 := hsg.2
      rw [drop_at h, lm_star hs] at hsg2
      obtain ⟨k2, hk3, hh2⟩ := hsg2
      rw [List.drop_drop] at hh2
      rw [List.length_drop] at hk3
      rw [drop_at h, lm_star hs]
      refine ⟨k + (i - a) + k2 - j, ?_, ?_⟩
      · rw [List.length_drop]; omega
      · rw [List.drop_drop, show j + (k + (i - a) + k2 - j) = k + (i - a) + k2 from by omega]; exact hh2
  · exact .inl

theorem GI.atFit {P : List α} {L : List β} {i j : Nat} {o : Option Nat} {se : Nat} (g : GI star fit P L i j o se) (h : i < P.length) (h2 : j < L.length) (hs : star P[i] = false) (hf : fit P[i] L[j] = true) :
    GI star fit P L (i + 1) (j + 1) o se := by
  refine ⟨h, h2, fun a ha => ?_, ?_⟩
  · obtain ⟨s1, s2, s3⟩ := g.seg a ha
    refine ⟨by omega, by omega, fun x e h1 h3 he => ?_⟩
    by_cases e1 : x = i
    · subst e1; rw [List.getElem?_eq_getElem h] at he; cases he; exact hs
    · exact s3 x e h1 (by omega) he
  · rw [g.eqv, drop_at h, drop_at h2, lm_one hs, hf, Bool.true_and]

/-- At element i and item j nothing fits. -/
theorem GI.stuck {P : List α} {L : List β} {i j : Nat} (h2 : j < L.length) (hn : ∀ h : i < P.length, star P[i] = false ∧ fit P[i] L[j] = false) : lm star fit (P.drop i) (L.drop j) = false := by
  by_cases h : i < P.length
  · rw [drop_at h, drop_at h2, lm_one (hn h).1, (hn h).2, Bool.false_and]
  · rw [List.drop_eq_nil_of_le (by omega), drop_at h2]; rfl

theorem GI.back {P : List α} {L : List β} {i j a : Nat} {se : Nat} (g : GI star fit P L i j (some a) se) (h2 : j < L.length) (hn : ∀ h : i < P.length, star P[i] = false ∧ fit P[i] L[j] = false) :
    GI star fit P L a (se + 1) (some a) (se + 1) := by
  obtain ⟨s1, s2, s3⟩ := g.seg a rfl
  have hi := g.hi
  refine ⟨by omega, by omega, fun b hb => ?_, ?_⟩
  · cases hb; exact ⟨Nat.le_refl _, by omega, fun x e h1 h2 => by omega⟩
  · rw [g.eqv, GI.stuck h2 hn]
    constructor
    · rintro (hh | ⟨b, hb, k, hk, hk2, hh⟩)
      · cases hh
      · cases hb
        by_cases e : k = se + 1
        · subst e; exact .inl hh
        · exact .inr ⟨a, rfl, k, by omega, hk2, hh⟩
    · rintro (hh | ⟨b, hb, k, hk, hk2, hh⟩)
      · exact .inr ⟨a, rfl, se + 1, by omega, by omega, hh⟩
      · cases hb; exact .inr ⟨a, rfl, k, by omega, hk2, hh⟩

theorem GI.fail {P : List α} {L : List β} {i j : Nat} {se : Nat} (g : GI star fit P L i j none se) (h2 : j < L.length) (hn : ∀ h : i < P.length, star P[i] = false ∧ fit P[i] L[j] = false) :
    lm star fit P L = false := by
  rw [Bool.eq_false_iff]; intro h
  rcases g.eqv.1 h with h | ⟨_, h, _⟩
  · rw [GI.stuck h2 hn] at h; cases h
  · cases h

theorem GI.end_ {P : List α} {L : List β} {i j : Nat} {o : Option Nat} {se : Nat} (g : GI star fit P L i j o se) (h : ¬ j < L.length) : lm star fit P L = lm star fit (P.drop i) [] := by
  have hj := g.hj
  have hi := g.hi
  have e : L.drop j = [] := List.drop_eq_nil_of_le (by omega)
  rw [Bool.eq_iff_iff, g.eqv, e]
  constructor
  · rintro (hh | ⟨a, ha, k, hk, hk2, hh⟩)
    · exact hh
    · obtain ⟨s1, s2, s3⟩ := g.seg a ha
      have hsg := lm_seg (star := star) (fit := fit) (i - a) (P.drop a) (L.drop k) (by rw [List.length_drop]; omega) (fun x e hx he => s3 (a + x) e (by omega) (by omega) (by rwa [List.getElem?_drop] at he)) hh
      rw [List.length_drop] at hsg
      have := hsg.1
      omega
  · exact .inl

theorem tail_star {P : List α} {i : Nat} (h : i < P.length) (hs : star P[i] = true) : lm star fit (P.drop i) [] = lm star fit (P.drop (i + 1)) [] := by
  rw [Bool.eq_iff_iff, drop_at h, lm_star hs]
  constructor
  · rintro ⟨k, _, hh⟩; simpa using hh
  · intro hh; exact ⟨0, Nat.zero_le _, by simpa using hh⟩
theorem tail_stop {P : List α} {i : Nat} (h : i < P.length) (hs : star P[i] = false) : lm star fit (P.drop i) [] = false := by
  rw [drop_at h, lm_none hs]
theorem tail_end {P : List α} {i : Nat} (h : ¬ i < P.length) : lm star fit (P.drop i) [] = true := by
  rw [List.drop_eq_nil_of_le (by omega), lm]; rfl

end

/-- What bounds the rounds of the search. -/
def behind : Option Nat → Nat
  | none => 0
  | some a => a + 1
def mu (m n i : Nat) (o : Option Nat) (se : Nat) : Nat := ((m + 1 - behind o) * (n + 1) + (n - se)) * (m + 1) + (m - i)
theorem mu_fit {m n i : Nat} {o : Option Nat} {se : Nat} (h : i < m) : mu m n (i + 1) o se < mu m n i o se := by
  unfold mu; omega
theorem mul_down {S S' m x y : Nat} (h : S' < S) (hx : x ≤ m) : S' * (m + 1) + x < S * (m + 1) + y := by
  have h1 : (S' + 1) * (m + 1) ≤ S * (m + 1) := Nat.mul_le_mul_right _ h
  rw [Nat.add_mul] at h1
  omega
theorem mu_back {m n i a : Nat} {se : Nat} (h : se < n) : mu m n a (some a) (se + 1) < mu m n i (some a) se := by
  unfold mu; exact mul_down (by omega) (by omega)
theorem mu_star {m n i j : Nat} {o : Option Nat} {se : Nat} (h : i < m) (ho : ∀ a, o = some a → a ≤ i) : mu m n (i + 1) (some (i + 1)) j < mu m n i o se := by
  unfold mu
  refine mul_down ?_ (by omega)
  have : m + 1 - behind (some (i + 1)) < m + 1 - behind o := by
    cases o with
    | none => simp only [behind]; omega
    | some a => have := ho a rfl; simp only [behind]; omega
  exact mul_down this (by omega)

end Go.Proofs.YtoeiaffkedkepaaGreatDoor

/- glob.matchAll at every two functions that say which elements are stars and what fits: it answers whether the elements match the items. Conditions: the two functions answer so in every later world and leave memory below as it was; both lists are shorter than two to the 31st. -/
namespace Go.Proofs.YtoeiaffkedkepaaGreatDoor
open Go.RowKit

def zOf : Option Nat → Int
  | none => -1
  | some a => (a : Int)

set_option maxHeartbeats 1600000 in
theorem matchAll_any {α β : Type} (star : α → Bool) (fit : α → β → Bool) (P : List α) (L : List β) (g1 g2 : FuncId) (a1 a2 : Addr) (eg1 : ∀ args w, (callFunc g1 args).run Tryz.prog w = .ok (.enter g1 args) w) (eg2 : ∀ args w, (callFunc g2 args).run Tryz.prog w = .ok (.enter g2 args) w) (w : World)
    (hm : P.length ≤ 2147483648) (hn : L.length ≤ 2147483648)
    (h1 : ∀ W (i : Nat) (h : i < P.length), Below w.heap.size w W → Calls Tryz.prog g1 #[.int .i64 i, .pointer (some a1)] W fun e w' => e = .returned (.bool (star P[i])) ∧ Below W.heap.size W w')
    (h2 : ∀ W (i j : Nat) (h : i < P.length) (h' : j < L.length), Below w.heap.size w W → Calls Tryz.prog g2 #[.int .i64 i, .int .i64 j, .pointer (some a1), .pointer (some a2)] W fun e w' => e = .returned (.bool (fit P[i] L[j])) ∧ Below W.heap.size W w') :
    Calls Tryz.prog 38 #[.int .i64 P.length, .int .i64 L.length, .func (.func g1) #[] #[.pointer (some a1)], .func (.func g2) #[] #[.pointer (some a1), .pointer (some a2)]] w fun e w' => e = .returned (.bool (lm star fit P L)) ∧ Below w.heap.size w w' := by
  have H1 := Lib.hid h1
  have H2 := Lib.hid h2
  clear h1 h2
  obtain ⟨m, hpm⟩ : ∃ m, P.length = m := ⟨_, rfl⟩
  obtain ⟨n, hln⟩ : ∃ n, L.length = n := ⟨_, rfl⟩
  rw [hpm] at hm ⊢
  rw [hln] at hn ⊢
  have HM := Lib.hid hpm
  have HL := Lib.hid hln
  clear hpm hln
  go_enter Tryz.func38, Tryz.ntmps38
  go_wp2
  go_loopg [9, 10, 11, 12] (mu m n 0 none 0) (fun gg s9 s10 s11 s12 wr => ∃ (i j : Nat) (o : Option Nat) (se : Nat), s9 = .int .i64 i ∧ s10 = .int .i64 j ∧ s11 = .int .i64 (zOf o) ∧ s12 = .int .i64 se ∧ Aside (GI star fit P L i j o se ∧ Below w.heap.size w wr ∧ mu m n i o se ≤ gg))
  case atStart => exact ⟨0, 0, none, 0, rfl, rfl, rfl, rfl, (show _ ∧ _ from ⟨GI.start P L, Below.refl _ _, Nat.le_refl _⟩)⟩
  case round =>
    obtain ⟨i, j, o, se, rfl, rfl, rfl, rfl, A⟩ := hrel
    obtain ⟨G, BW, hmu⟩ := A.out
    clear A
    have hs := BW.size
    have hi : i ≤ m := HM.out ▸ G.hi
    have hj : j ≤ n := HL.out ▸ G.hj
    have G' := Lib.hid G
    clear G
    have MU := Lib.hid hmu
    clear hmu
    have BW' := Lib.hid BW
    clear BW
    by_cases hlt : j < n
    · have hltP : j < L.length := HL.out.symm ▸ hlt
      have HLT := Lib.hid hltP
      clear hltP
      by_cases hil : i < m
      · have hilP : i < P.length := HM.out.symm ▸ hil
        have HIL := Lib.hid hilP
        clear hilP
        have c1 := fun W hb => H1.out W i HIL.out hb
        have c2 := fun W hb => H2.out W i j HIL.out HLT.out hb
        cases hst : star (P[i]'HIL.out) with
        | true =>
          rw [hst] at c1
          have HS := Lib.hid hst
          have C1 := Lib.hid c1
          clear hst c1 c2
          go_wp2_with (go_at_fn g1; refine (C1.out _ BW'.out).mono ?_; rintro e w' ⟨rfl, hb'⟩)
          go_roundg (mu m n (i + 1) (some (i + 1)) j)
          case measure => exact Nat.lt_of_lt_of_le (mu_star hil (fun a ha => (G'.out.seg a ha).1)) MU.out
          case rel =>
            exact ⟨i + 1, j, some (i + 1), j, by go_num, rfl, by unfold zOf; simp, rfl, (show _ ∧ _ from ⟨G'.out.atStar HIL.out HS.out, BW'.out.trans (hb'.mono hs), Nat.le_refl _⟩)⟩
        | false =>
          rw [hst] at c1
          have HS := Lib.hid hst
          have C1 := Lib.hid c1
          clear hst c1
          cases hf : fit (P[i]'HIL.out) (L[j]'HLT.out) with
          | true =>
            rw [hf] at c2
            have HF := Lib.hid hf
            have C2 := Lib.hid c2
            clear hf c2
            go_wp2_with (first | (go_at_fn g1; refine (C1.out _ BW'.out).mono ?_; rintro e w' ⟨rfl, hb1⟩; have BX := Lib.hid (BW'.out.trans (hb1.mono hs)); have hs1 := hb1.size; clear hb1) | (go_at_fn g2; refine (C2.out _ BX.out).mono ?_; rintro e w' ⟨rfl, hb2⟩) | fail)
            go_roundg (mu m n (i + 1) o se)
            case measure => exact Nat.lt_of_lt_of_le (mu_fit hil) MU.out
            case rel =>
              exact ⟨i + 1, j + 1, o, se, by go_num, by go_num, rfl, rfl, (show _ ∧ _ from ⟨G'.out.atFit HIL.out HLT.out HS.out HF.out, BX.out.trans (hb2.mono (by omega)), Nat.le_refl _⟩)⟩
          | false =>
            rw [hf] at c2
            have HF := Lib.hid (show ∀ h : i < P.length, star P[i] = false ∧ fit P[i] (L[j]'HLT.out) = false from fun _ => ⟨HS.out, hf⟩)
            have C2 := Lib.hid c2
            clear hf c2
            cases o with
            | none =>
              unfold zOf
              go_wp2_with (first | (go_at_fn g1; refine (C1.out _ BW'.out).mono ?_; rintro e w' ⟨rfl, hb1⟩; have BX := Lib.hid (BW'.out.trans (hb1.mono hs)); have hs1 := hb1.size; clear hb1) | (go_at_fn g2; refine (C2.out _ BX.out).mono ?_; rintro e w' ⟨rfl, hb2⟩) | fail)
              go_ret
              exact ⟨ret_bool (G'.out.fail HLT.out HF.out).symm, BX.out.trans (hb2.mono (by omega))⟩
            | some a =>
              unfold zOf
              have hse : se + 1 ≤ n ∧ a ≤ m := by have := G'.out.seg a rfl; omega
              go_wp2_with (first | (go_at_fn g1; refine (C1.out _ BW'.out).mono ?_; rintro e w' ⟨rfl, hb1⟩; have BX := Lib.hid (BW'.out.trans (hb1.mono hs)); have hs1 := hb1.size; clear hb1) | (go_at_fn g2; refine (C2.out _ BX.out).mono ?_; rintro e w' ⟨rfl, hb2⟩) | fail)
              go_roundg (mu m n a (some a) (se + 1))
              case measure => exact Nat.lt_of_lt_of_le (mu_back (by omega)) MU.out
              case rel =>
                exact ⟨a, se + 1, some a, se + 1, rfl, by go_num, rfl, by go_num, (show _ ∧ _ from ⟨G'.out.back HLT.out HF.out, BX.out.trans (hb2.mono (by omega)), Nat.le_refl _⟩)⟩
      · have HF := Lib.hid (show ∀ h : i < P.length, star P[i] = false ∧ fit P[i] (L[j]'HLT.out) = false from fun h => absurd (HM.out ▸ h) hil)
        cases o with
        | none =>
          unfold zOf
          go_wp2
          go_ret
          exact ⟨ret_bool (G'.out.fail HLT.out HF.out).symm, BW'.out⟩
        | some a =>
          unfold zOf
          have hse : se + 1 ≤ n ∧ a ≤ m := by have := G'.out.seg a rfl; omega
          go_wp2
          go_roundg (mu m n a (some a) (se + 1))
          case measure => exact Nat.lt_of_lt_of_le (mu_back (by omega)) MU.out
          case rel =>
            exact ⟨a, se + 1, some a, se + 1, rfl, by go_num, rfl, by go_num, (show _ ∧ _ from ⟨G'.out.back HLT.out HF.out, BW'.out, Nat.le_refl _⟩)⟩
    · have HE := Lib.hid (G'.out.end_ (fun h => hlt (HL.out ▸ h)))
      clear G' MU
      go_wp2
      go_loopg [9] m (fun gg s9 wx => ∃ k : Nat, s9 = .int .i64 k ∧ k ≤ m ∧ m - k ≤ gg ∧ Aside (Below w.heap.size w wx ∧ lm star fit P L = lm star fit (P.drop k) []))
      case atStart => exact ⟨i, rfl, hi, by omega, (show _ ∧ _ from ⟨BW'.out, HE.out⟩)⟩
      case round =>
        obtain ⟨k, rfl, hk, hg, A⟩ := hrel
        obtain ⟨BX, hlm⟩ := A.out
        clear A
        have hs2 := BX.size
        have BX' := Lib.hid BX
        have LM := Lib.hid hlm
        clear BX hlm BW' HE
        by_cases hkl : k < m
        · have hklP : k < P.length := HM.out.symm ▸ hkl
          have HKL := Lib.hid hklP
          clear hklP
          have c1 := fun W hb => H1.out W k HKL.out hb
          cases hst : star (P[k]'HKL.out) with
          | true =>
            rw [hst] at c1
            have HS := Lib.hid hst
            have C1 := Lib.hid c1
            clear hst c1
            go_wp2_with (go_at_fn g1; refine (C1.out _ BX'.out).mono ?_; rintro e w' ⟨rfl, hb'⟩)
            go_roundg (m - (k + 1))
            case measure => omega
            case rel =>
              exact ⟨k + 1, by go_num, by omega, by omega, (show _ ∧ _ from ⟨BX'.out.trans (hb'.mono hs2), LM.out.trans (tail_star HKL.out HS.out)⟩)⟩
          | false =>
            rw [hst] at c1
            have HS := Lib.hid hst
            have C1 := Lib.hid c1
            clear hst c1
            go_wp2_with (go_at_fn g1; refine (C1.out _ BX'.out).mono ?_; rintro e w' ⟨rfl, hb'⟩)
            go_ret
            refine ⟨ret_bool ?_, BX'.out.trans (hb'.mono hs2)⟩
            rw [LM.out, tail_stop HKL.out HS.out]
            simp; omega
        · go_wp2
          go_ret
          refine ⟨ret_bool ?_, BX'.out⟩
          rw [LM.out, tail_end (fun h => hkl (HM.out ▸ h))]
          simp; omega

end Go.Proofs.YtoeiaffkedkepaaGreatDoor

/- Patterns of bytes: what they match, a star between two patterns, and patterns made of the text itself. Plain facts on lists. -/
namespace Go.Proofs.YtoeiaffkedkepaaGreatDoor
open Go.RowKit

theorem lm_append {α β : Type} {star : α → Bool} {fit : α → β → Bool} : ∀ (ea cs : List α) (bs : List β),
    lm star fit (ea ++ cs) bs = true ↔ ∃ i, i ≤ bs.length ∧ lm star fit ea (bs.take i) = true ∧ lm star fit cs (bs.drop i) = true
  | [], cs, bs => by
    constructor
    · intro h; exact ⟨0, Nat.zero_le _, by simp [lm], by simpa using h⟩
    · rintro ⟨i, hi, h1, h2⟩
      rw [lm_nil, List.take_eq_nil_iff] at h1
      rcases h1 with rfl | h1
      · simpa using h2
      · subst h1; simpa using h2
  | a :: ea, cs, bs => by
    rw [List.cons_append]
    cases ha : star a with
    | true =>
      rw [lm_star ha]
      constructor
      · rintro ⟨k, hk, h⟩
        obtain ⟨i, hi, h1, h2⟩ := (lm_append ea cs _).1 h
        rw [List.length_drop] at hi
        refine ⟨k + i, by omega, (lm_star ha).2 ⟨k, by rw [List.length_take]; omega, ?_⟩, by rwa [List.drop_drop] at h2⟩
        rwa [List.drop_take, show k + i - k = i from by omega]
      · rintro ⟨i, hi, h1, h2⟩
        obtain ⟨k, hk, h3⟩ := (lm_star ha).1 h1
        rw [List.length_take] at hk
        rw [List.drop_take] at h3
        refine ⟨k, by omega, (lm_append ea cs _).2 ⟨i - k, by rw [List.length_drop]; omega, h3, ?_⟩⟩
        rwa [List.drop_drop, show k + (i - k) = i from by omega]
    | false =>
      cases bs with
      | nil =>
        rw [lm_none ha]
        constructor
        · intro h; cases h
        · rintro ⟨i, _, h1, _⟩; rw [List.take_nil, lm_none ha] at h1; cases h1
      | cons b r =>
        rw [lm_one ha, Bool.and_eq_true]
        constructor
        · rintro ⟨hf, h⟩
          obtain ⟨i, hi, h1, h2⟩ := (lm_append ea cs _).1 h
          exact ⟨i + 1, by simpa using hi, by rw [List.take_succ_cons, lm_one ha, hf, h1]; rfl, by simpa using h2⟩
        · rintro ⟨i, hi, h1, h2⟩
          cases i with
          | zero => rw [List.take_zero, lm_none ha] at h1; cases h1
          | succ i =>
            rw [List.take_succ_cons, lm_one ha, Bool.and_eq_true] at h1
            exact ⟨h1.1, (lm_append ea cs _).2 ⟨i, by simpa using hi, h1.2, by simpa using h2⟩⟩

theorem lm_between {α β : Type} {star : α → Bool} {fit : α → β → Bool} {ea cs : List α} {st : α} (hs : star st = true) (bs : List β) :
    lm star fit (ea ++ st :: cs) bs = true ↔ ∃ i j, i ≤ j ∧ j ≤ bs.length ∧ lm star fit ea (bs.take i) = true ∧ lm star fit cs (bs.drop j) = true := by
  rw [lm_append]
  constructor
  · rintro ⟨i, hi, h1, h2⟩
    obtain ⟨k, hk, h3⟩ := (lm_star hs).1 h2
    rw [List.length_drop] at hk
    exact ⟨i, i + k, by omega, by omega, h1, by rwa [List.drop_drop] at h3⟩
  · rintro ⟨i, j, hij, hj, h1, h2⟩
    exact ⟨i, by omega, h1, (lm_star hs).2 ⟨j - i, by rw [List.length_drop]; omega, by rwa [List.drop_drop, show i + (j - i) = j from by omega]⟩⟩

/-- Two stars in a row are one. -/
theorem lm_stars {α β : Type} {star : α → Bool} {fit : α → β → Bool} {a b : α} {ea : List α} (ha : star a = true) (hb : star b = true) (bs : List β) :
    lm star fit (a :: b :: ea) bs = lm star fit (b :: ea) bs := by
  rw [Bool.eq_iff_iff, lm_star ha]
  constructor
  · rintro ⟨k, hk, h⟩
    obtain ⟨k2, hk2, h2⟩ := (lm_star hb).1 h
    rw [List.length_drop] at hk2
    exact (lm_star hb).2 ⟨k + k2, by omega, by rwa [List.drop_drop] at h2⟩
  · intro h; exact ⟨0, Nat.zero_le _, by simpa using h⟩

def starB (c : UInt8) : Bool := c == 42
def fitB (p c : UInt8) : Bool := p == 63 || p == c
/-- The bytes of a pattern match the bytes of a text. -/
def lmB (p s : List UInt8) : Bool := lm starB fitB p s
theorem lmB_self : ∀ l : List UInt8, lmB l l = true
  | [] => rfl
  | c :: r => by
    have ih := lmB_self r
    unfold lmB at *
    cases hc : starB c with
    | true => rw [lm_star hc]; exact ⟨1, by simp, by simpa using ih⟩
    | false => rw [lm_one hc, ih]; simp [fitB]
theorem lmB_mark (l : List UInt8) (i : Nat) (h : i < l.length) : lmB (l.take i ++ 63 :: l.drop (i + 1)) l = true := by
  refine (lm_append _ _ _).2 ⟨i, by omega, lmB_self _, ?_⟩
  rw [drop_at h, lm_one (by rfl)]
  have := lmB_self (l.drop (i + 1))
  unfold lmB at this
  rw [this]; simp [fitB]
theorem lmB_tail (l : List UInt8) (i : Nat) (h : i < l.length) : lmB (l.take i ++ [42]) l = true := by
  refine (lm_append _ _ _).2 ⟨i, by omega, lmB_self _, ?_⟩
  rw [lm_star (by rfl)]
  exact ⟨(l.drop i).length, Nat.le_refl _, by rw [List.drop_length]; rfl⟩

theorem eq_u8 (x : UInt8) (c : Nat) (hc : c < 256) : ((x.toNat : Int) == (c : Int)) = (x == UInt8.ofNat c) := by
  have h0 : (UInt8.ofNat c).toNat = c := by rw [UInt8.toNat_ofNat']; exact Nat.mod_eq_of_lt hc
  rw [Bool.eq_iff_iff, beq_iff_eq, beq_iff_eq]
  constructor
  · intro h
    apply UInt8.toNat_inj.1
    rw [h0]; omega
  · rintro rfl
    rw [h0]
theorem eq_u8s (x y : UInt8) : ((x.toNat : Int) == (y.toNat : Int)) = (x == y) := by
  rw [Bool.eq_iff_iff, beq_iff_eq, beq_iff_eq]
  constructor
  · intro h; exact UInt8.toNat_inj.1 (by omega)
  · rintro rfl; rfl

/-- A pattern matches a text. -/
def mat (p s : ByteArray) : Bool := lmB p.data.toList s.data.toList

end Go.Proofs.YtoeiaffkedkepaaGreatDoor

/- The reference's NewFault, and the value of a fault. No condition. -/
namespace Go.Proofs.YtoeiaffkedkepaaGreatDoor
open Go.RowKit

def faultV (c i : Int) : Value := .agg #[.int .i64 c, .int .i64 i]

set_option maxHeartbeats 400000 in
theorem newFault_any (c i : Int) (w : World) :
    Calls Tryz.prog 7 #[.int .i64 c, .int .i64 i] w fun e w' => e = .returned (.agg #[.int .i64 c, .int .i64 i]) ∧ Below w.heap.size w w' := by
  go_enter Tryz.func7, Tryz.ntmps7
  go_wp2
  exact bodyPost_ret (v := faultV c i) (by simp [results, Tryz.results7, faultV, go_sem]) rfl ⟨rfl, (Below.refl _ _).alloc (Nat.le_refl _) _⟩

theorem FBox.far {w : World} {n : Nat} {c i : Int} (h : FBox w n c i) {p : Addr} (hp : n ≠ p.block) (u : Value) : FBox (w.setCell p u) n c i :=
  ⟨by simpa using h.lt, (World.cell?_setCell_other w p _ u (fun e => hp (by rw [e]))).trans h.c0, (World.cell?_setCell_other w p _ u (fun e => hp (by rw [e]))).trans h.c1, by simpa using h.f0, by simpa using h.f1⟩
theorem FBox.put {w : World} {n : Nat} {c i : Int} (h : FBox w n c i) (c' i' : Int) : FBox ((w.setCell ⟨n, 0, none⟩ (.int .i64 c')).setCell ⟨n, 1, none⟩ (.int .i64 i')) n c' i' :=
  ⟨by simpa using h.lt, (World.cell?_setCell_other _ ⟨n, 1, none⟩ _ _ (by simp)).trans (World.cell?_setCell_same _ _ _ h.c0), World.cell?_setCell_same _ _ _ ((World.cell?_setCell_other _ ⟨n, 0, none⟩ _ _ (by simp)).trans h.c1), by simpa using h.f0, by simpa using h.f1⟩

theorem FBox.of_block {w w' : World} {n : Nat} {c i : Int} (h : FBox w n c i) (hb : w'.heap[n]? = w.heap[n]?) : FBox w' n c i := by
  have hlt : n < w'.heap.size := by
    rcases Nat.lt_or_ge n w'.heap.size with hlt | hge
    · exact hlt
    · rw [Array.getElem?_eq_none hge, Array.getElem?_eq_getElem h.lt] at hb; cases hb
  have f : ∀ o, w'.frozen? ⟨n, o, none⟩ = w.frozen? ⟨n, o, none⟩ := fun o => by unfold World.frozen?; simp only [hb]
  exact ⟨hlt, (World.cell?_of_block (a := ⟨n, 0, none⟩) hb).trans h.c0, (World.cell?_of_block (a := ⟨n, 1, none⟩) hb).trans h.c1, (f 0).trans h.f0, (f 1).trans h.f1⟩
theorem FBox.grown {w w' : World} {n : Nat} {c i : Int} {row : Option Nat} (h : FBox w n c i) (hg : w.grownBy w' row) (hn : some n ≠ row) : FBox w' n c i :=
  h.of_block (hg.block n h.lt hn)

/-- Block n holds one value. -/
structure One (w : World) (n : Nat) (v : Value) : Prop where
  lt : n < w.heap.size
  c0 : w.cell? ⟨n, 0, none⟩ = some v
  f0 : w.frozen? ⟨n, 0, none⟩ = false
theorem One.new (w : World) (v : Value) (t : TypeId) : One (w.alloc (.cells #[v] t)) w.heap.size v := ⟨by simp, by simp, by simp⟩
theorem One.below {w w' : World} {B n : Nat} {v : Value} (h : One w n v) (hb : Below B w w') (hn : n < B) : One w' n v :=
  ⟨Nat.lt_of_lt_of_le h.lt hb.size, (hb.cell (p := ⟨n, 0, none⟩) hn).trans h.c0, (hb.frozen (p := ⟨n, 0, none⟩) hn).trans h.f0⟩
theorem One.alloc {w : World} {n : Nat} {v : Value} (h : One w n v) (o : Obj) : One (w.alloc o) n v :=
  h.below ((Below.refl w.heap.size w).alloc (Nat.le_refl _) o) h.lt
theorem One.drew {w : World} {n : Nat} {v : Value} (h : One w n v) : One w.drew n v := ⟨h.lt, h.c0, h.f0⟩
theorem One.at_ {w : World} {n n' : Nat} {v : Value} (h : One w n v) (e : n = n') : One w n' v := e ▸ h
theorem FBox.at_ {w : World} {n n' : Nat} {c i : Int} (h : FBox w n c i) (e : n = n') : FBox w n' c i := e ▸ h
theorem One.far {w : World} {n : Nat} {v : Value} (h : One w n v) {p : Addr} (hp : n ≠ p.block) (u : Value) : One (w.setCell p u) n v :=
  ⟨by simpa using h.lt, (World.cell?_setCell_other w p _ u (fun e => hp (by rw [e]))).trans h.c0, by simpa using h.f0⟩

theorem One.grown {w w' : World} {n : Nat} {v : Value} {row : Option Nat} (h : One w n v) (hg : w.grownBy w' row) (hn : some n ≠ row) : One w' n v := by
  have hb := hg.block n h.lt hn
  have f : w'.frozen? ⟨n, 0, none⟩ = w.frozen? ⟨n, 0, none⟩ := by unfold World.frozen?; simp only [hb]
  exact ⟨Nat.lt_of_lt_of_le h.lt hg.size, (World.cell?_of_block (a := ⟨n, 0, none⟩) hb).trans h.c0, f.trans h.f0⟩
theorem own_below {w w' : World} {base n size : Nat} {e : TypeId} {v : Value} {xs : List Value} (h : w.ownsRow base e size v n xs) (hb : Below w.heap.size w w') : w'.ownsRow base e size v n xs :=
  h.kept (row := none) ⟨hb.os, hb.tape, hb.output, hb.size, fun i hi _ => hb.block i hi⟩ (by cases v.ownBlock with
    | none => exact .inl rfl
    | some g => exact .inr (by simp))

theorem FBox.drewN {w : World} {n : Nat} {c i : Int} (h : FBox w n c i) (k : Nat) : FBox (w.drewN k) n c i := ⟨h.lt, h.c0, h.c1, h.f0, h.f1⟩

end Go.Proofs.YtoeiaffkedkepaaGreatDoor

/- glob.matchBytes and glob.Match at every two strings: the bytes match, or the fault. Condition: the strings are of at most the model's longest length. -/
namespace Go.Proofs.YtoeiaffkedkepaaGreatDoor
open Go.RowKit

theorem byte_at (s : ByteArray) (i : Nat) (h : i < s.size) : s.data.toList[i]'(by simpa using h) = s[i] := by
  rw [Array.getElem_toList]; rfl
theorem bytes1_any (p : ByteArray) (i n : Nat) (w : World) (hi : i < p.data.toList.length) (hc : w.cell? ⟨n, 0, none⟩ = some (.string p)) (hp : p.size ≤ maxLen) :
    Calls Tryz.prog 56 #[.int .i64 i, .pointer (some ⟨n, 0, none⟩)] w fun e w' => e = .returned (.bool (starB (p.data.toList[i]))) ∧ Below w.heap.size w w' := by
  have hi' : i < p.size := by simpa using hi
  rw [byte_at p i hi']
  unfold maxLen at hp
  go_enter Tryz.func56, Tryz.ntmps56
  go_wp2
  go_ret
  refine ⟨ret_bool ?_, Below.refl _ _⟩
  exact eq_u8 _ 42 (by decide)
theorem eg_bytes1 : ∀ args w, (callFunc 56 args).run Tryz.prog w = .ok (.enter 56 args) w := enters_of Tryz.func56 (by kernel_rfl) rfl

set_option maxHeartbeats 800000 in
theorem bytes2_any (p s : ByteArray) (i j n k : Nat) (w : World) (hi : i < p.data.toList.length) (hj : j < s.data.toList.length) (hc : w.cell? ⟨n, 0, none⟩ = some (.string p)) (hd : w.cell? ⟨k, 0, none⟩ = some (.string s)) (hp : p.size ≤ maxLen) (hs : s.size ≤ maxLen) :
    Calls Tryz.prog 57 #[.int .i64 i, .int .i64 j, .pointer (some ⟨n, 0, none⟩), .pointer (some ⟨k, 0, none⟩)] w fun e w' => e = .returned (.bool (fitB (p.data.toList[i]) (s.data.toList[j]))) ∧ Below w.heap.size w w' := by
  have hi' : i < p.size := by simpa using hi
  have hj' : j < s.size := by simpa using hj
  rw [byte_at p i hi', byte_at s j hj']
  have h63 := eq_u8 p[i] 63 (by decide)
  have hss := eq_u8s p[i] s[j]
  unfold maxLen at hp hs
  unfold fitB
  cases h : p[i] == 63 with
  | true =>
    rw [show (UInt8.ofNat 63) = 63 from rfl, h] at h63
    have hz : ((p[i].toNat : Int) == 63) = true := h63
    clear h63 h hss
    go_enter Tryz.func57, Tryz.ntmps57
    go_wp2
    go_quiet (fail)
    go_wp2
    go_ret
    exact ⟨rfl, below_drewN (Below.refl _ _) _⟩
  | false =>
    rw [show (UInt8.ofNat 63) = 63 from rfl, h] at h63
    have hz : ((p[i].toNat : Int) == 63) = false := h63
    clear h63 h
    have HS := Lib.hid hss
    clear hss
    go_enter Tryz.func57, Tryz.ntmps57
    go_wp2
    go_quiet (fail)
    go_wp2
    go_ret
    exact ⟨ret_bool (by rw [HS.out, Bool.false_or]), below_drewN (Below.refl _ _) _⟩
theorem eg_bytes2 : ∀ args w, (callFunc 57 args).run Tryz.prog w = .ok (.enter 57 args) w := enters_of Tryz.func57 (by kernel_rfl) rfl

set_option maxHeartbeats 800000 in
theorem matchBytes_any (p s : ByteArray) (w : World) (hp : p.size ≤ 2147483648) (hs : s.size ≤ 2147483648) :
    Calls Tryz.prog 37 #[.string p, .string s] w fun e w' => e = .returned (.bool (mat p s)) ∧ Below w.heap.size w w' := by
  have hp2 : p.size ≤ maxLen := by unfold maxLen; omega
  have hs2 : s.size ≤ maxLen := by unfold maxLen; omega
  have B0 : Below w.heap.size w ((w.alloc (.cells #[.string p] 9)).alloc (.cells #[.string s] 9)) := ((Below.refl _ _).alloc (Nat.le_refl _) _).alloc (by simp) _
  have G0 := (One.new w (.string p) 9).alloc (.cells #[.string s] 9)
  have G1 := (One.new (w.alloc (.cells #[.string p] 9)) (.string s) 9).at_ (n' := w.heap.size + 1) (by simp)
  have H := matchAll_any starB fitB p.data.toList s.data.toList 56 57 ⟨w.heap.size, 0, none⟩ ⟨w.heap.size + 1, 0, none⟩ eg_bytes1 eg_bytes2
    ((w.alloc (.cells #[.string p] 9)).alloc (.cells #[.string s] 9)) (by simpa using hp) (by simpa using hs)
    (fun W i h hb => bytes1_any p i _ W h ((G0.below hb G0.lt).c0) hp2)
    (fun W i j h h' hb => bytes2_any p s i j _ _ W h h' ((G0.below hb G0.lt).c0) ((G1.below hb G1.lt).c0) hp2 hs2)
  rw [show p.data.toList.length = p.size from by simp, show s.data.toList.length = s.size from by simp] at H
  have HH := Lib.hid H
  clear H G0 G1 hp2 hs2
  go_enter Tryz.func37, Tryz.ntmps37
  go_wp2_with fail
  refine HH.out.mono ?_
  rintro e w' ⟨rfl, hb⟩
  go_wp2
  go_ret
  exact ⟨rfl, B0.trans (hb.mono (by simp; omega))⟩

/-- What glob.Match answers. -/
def matF (p s : ByteArray) : Int × Int := if 100 < p.size then (2, 0) else if 100 < s.size then (2, 1) else (0, 0)
def matV (p s : ByteArray) : Value := .tuple #[.bool (decide ((matF p s).1 = 0) && mat p s), faultV (matF p s).1 (matF p s).2]

end Go.Proofs.YtoeiaffkedkepaaGreatDoor

/- Contracts of the leaves that packages path and the reference share: the name test on a rune, on a byte string, and the faults. No condition beyond those that each theorem states. -/
namespace Go.Proofs.YtoeiaffkedkepaaGreatDoor
open Go.RowKit


/-- A rune that may occur in a name. -/
def nameR (r : Int) : Bool := decide ((97 ≤ r ∧ r ≤ 122) ∨ (65 ≤ r ∧ r ≤ 90) ∨ (48 ≤ r ∧ r ≤ 57) ∨ r = 46 ∨ r = 95 ∨ r = 45)
theorem nameR_yes {r : Int} (h : (97 ≤ r ∧ r ≤ 122) ∨ (65 ≤ r ∧ r ≤ 90) ∨ (48 ≤ r ∧ r ≤ 57) ∨ r = 46 ∨ r = 95 ∨ r = 45) : true = nameR r := (decide_eq_true h).symm
theorem nameR_of {b : Bool} {r : Int} (h : b = true ↔ ((97 ≤ r ∧ r ≤ 122) ∨ (65 ≤ r ∧ r ≤ 90) ∨ (48 ≤ r ∧ r ≤ 57) ∨ r = 46 ∨ r = 95 ∨ r = 45)) : b = nameR r := by
  unfold nameR; rw [Bool.eq_iff_iff]; simpa using h

set_option maxHeartbeats 400000 in
theorem isNameRune_any (r : Int) (w : World) :
    Calls Tryz.prog 81 #[.int .i32 r] w fun e w' => e = .returned (.bool (nameR r)) ∧ w = w' := by
  go_enter Tryz.func81, Tryz.ntmps81
  go_wp2
  all_goals
    go_ret
    refine ⟨ret_bool (nameR_of ?_), rfl⟩
    simp
    try omega

set_option maxHeartbeats 400000 in
theorem isName1_any (r : Int) (w : World) :
    Calls Tryz.prog 80 #[.int .i32 r] w fun e w' => e = .returned (.bool (!nameR r)) ∧ w = w' := by
  go_enter Tryz.func80, Tryz.ntmps80
  go_wp2_with (go_at_call 81; refine (isNameRune_any _ _).mono ?_; rintro e w' ⟨rfl, rfl⟩)
  go_ret
  exact ⟨rfl, rfl⟩

/-- The shape of a name: 1 to 12 bytes, neither "." nor "..". -/
def vshape (s : ByteArray) : Bool := decide (1 ≤ s.size ∧ s.size ≤ 12 ∧ ¬ s.toList = [46] ∧ ¬ s.toList = [46, 46])
/-- Each byte may occur in a name. -/
def vbytes (s : ByteArray) : Bool := decide (∀ j (h : j < s.size), nameR (s[j].toNat : Int) = true)
def vname (s : ByteArray) : Bool := vshape s && vbytes s
theorem vshape_iff {s : ByteArray} : vshape s = true ↔ (1 ≤ s.size ∧ s.size ≤ 12 ∧ ¬ s.toList = [46] ∧ ¬ s.toList = [46, 46]) := by unfold vshape; simp
theorem vname_bad {s : ByteArray} (h : vshape s = false) : false = vname s := by unfold vname; rw [h]; rfl
theorem vname_byte {s : ByteArray} (k : Nat) (hk : k < s.size) (h : nameR (s[k].toNat : Int) = false) : false = vname s := by
  have : vbytes s = false := by
    unfold vbytes; rw [decide_eq_false_iff_not]; intro hh; rw [hh k hk] at h; cases h
  unfold vname; rw [this, Bool.and_false]
theorem vname_good {s : ByteArray} (h : vshape s = true) (hb : ∀ j (h : j < s.size), nameR (s[j].toNat : Int) = true) : true = vname s := by
  unfold vname; rw [h, Bool.true_and]; unfold vbytes; rw [decide_eq_true hb]
set_option maxHeartbeats 400000 in
theorem validName_any (s : ByteArray) (w : World) (hs : s.size ≤ maxLen) :
    Calls Tryz.prog 43 #[.string s] w fun e w' => e = .returned (.bool (vname s)) ∧ w = w' := by
  unfold maxLen at hs
  cases hsh : vshape s with
  | false =>
    have HV := Lib.hid hsh
    clear hsh
    go_enter Tryz.func43, Tryz.ntmps43
    go_wp2
    all_goals first | (go_ret; exact ⟨ret_bool (vname_bad HV.out), rfl⟩) | (exfalso; have h := HV.out; simp [vshape] at h; simp_all; omega)
  | true =>
    have HV := Lib.hid hsh
    obtain ⟨h1, h2, h3, h4⟩ := vshape_iff.1 hsh
    have h3' : (s.toList == [46]) = false := by simpa using h3
    have h4' : (s.toList == [46, 46]) = false := by simpa using h4
    clear hsh h3 h4
    go_enter Tryz.func43, Tryz.ntmps43
    go_wp2
    go_loop [3] (fun i => ∃ k : Nat, k ≤ s.size ∧ i = .int .i64 k ∧ Aside (∀ j (h : j < s.size), j < k → nameR (s[j].toNat : Int) = true)) (fun i => s.size - (intOf i).toNat)
    case atStart => exact ⟨0, Nat.zero_le _, rfl, fun j _ hj => absurd hj (Nat.not_lt_zero _)⟩
    case round =>
      obtain ⟨k, hk, rfl, HA⟩ := hrel
      by_cases hlt : k < s.size
      · go_wp2
        all_goals first
          | (go_ret; refine ⟨ret_bool (vname_byte k hlt ?_), rfl⟩; clear HA HV; unfold nameR; rw [decide_eq_false_iff_not]; generalize (s[k].toNat : Int) = c at *; simp at * <;> omega)
          | (go_round
             case rel =>
               refine ⟨k + 1, by omega, by go_num, fun j hj hjk => ?_⟩
               by_cases e : j = k
               · subst e
                 clear HA HV; unfold nameR; rw [decide_eq_true_iff]; generalize (s[j].toNat : Int) = c at *; simp at * <;> omega
               · exact HA.out j hj (by omega)
             case measure => simp [intOf]; omega)
      · go_wp2
        go_ret
        exact ⟨ret_bool (vname_good HV.out fun j hj => HA.out j hj (by omega)), rfl⟩

end Go.Proofs.YtoeiaffkedkepaaGreatDoor

/- The library's contracts laid at this seat's translation: each theorem says what one library function that the program calls returns and does to memory, under the conditions that it states. -/
namespace Go.Proofs
open Go.Shelf
def Tryz.lays156_ren : Go.Shelf.Ren := ⟨fun | 156 => 73 | 165 => 86 | 166 => 87 | 169 => 88 | 240 => 106 | 241 => 107 | 276 => 122 | 277 => 123 | n => n, fun | 31 => 26 | 9 => 9 | 3 => 3 | 4 => 4 | 0 => 0 | 20 => 20 | 72 => 106 | 76 => 110 | 70 => 104 | 37 => 46 | 75 => 109 | 127 => 130 | 164 => 139 | 5 => 5 | 80 => 112 | n => n, fun | n => n⟩
theorem Tryz.lays156 : Go.Proofs.Lays.n156 Tryz.prog Tryz.lays156_ren := {
  mixed := by kernel_rfl
  f156 := Tryz.func73.trans (congrArg some (by kernel_rfl))
  f165 := Tryz.func86.trans (congrArg some (by kernel_rfl))
  f166 := Tryz.func87.trans (congrArg some (by kernel_rfl))
  f169 := Tryz.func88.trans (congrArg some (by kernel_rfl))
  f240 := Tryz.func106.trans (congrArg some (by kernel_rfl))
  f241 := Tryz.func107.trans (congrArg some (by kernel_rfl))
  f276 := Tryz.func122.trans (congrArg some (by kernel_rfl))
  f277 := Tryz.func123.trans (congrArg some (by kernel_rfl))
  t0 := Tryz.underlying0
  a0 := Tryz.isAgg0
  z0 := Tryz.sizeOf0
  v0 := Tryz.zeroValue0
  t3 := Tryz.underlying3
  a3 := Tryz.isAgg3
  z3 := Tryz.sizeOf3
  v3 := Tryz.zeroValue3
  t4 := Tryz.underlying4
  a4 := Tryz.isAgg4
  z4 := Tryz.sizeOf4
  v4 := Tryz.zeroValue4
  t9 := Tryz.underlying9
  a9 := Tryz.isAgg9
  z9 := Tryz.sizeOf9
  v9 := Tryz.zeroValue9
  t20 := Tryz.underlying20
  a20 := Tryz.isAgg20
  z20 := Tryz.sizeOf20
  v20 := Tryz.zeroValue20
  t31 := Tryz.underlying26
  a31 := Tryz.isAgg26
  z31 := Tryz.sizeOf26
  v31 := Tryz.zeroValue26
  t37 := Tryz.underlying46
  a37 := Tryz.isAgg46
  z37 := Tryz.sizeOf46
  v37 := Tryz.zeroValue46
  t70 := Tryz.underlying104
  a70 := Tryz.isAgg104
  z70 := Tryz.sizeOf104
  v70 := Tryz.zeroValue104
  t72 := Tryz.underlying106
  a72 := Tryz.isAgg106
  z72 := Tryz.sizeOf106
  v72 := Tryz.zeroValue106
  t75 := Tryz.underlying109
  a75 := Tryz.isAgg109
  z75 := Tryz.sizeOf109
  v75 := Tryz.zeroValue109
  t76 := Tryz.underlying110
  a76 := Tryz.isAgg110
  z76 := Tryz.sizeOf110
  v76 := Tryz.zeroValue110
  t127 := Tryz.underlying130
  a127 := Tryz.isAgg130
  z127 := Tryz.sizeOf130
  v127 := Tryz.zeroValue130
  t164 := Tryz.underlying139
  a164 := Tryz.isAgg139
  z164 := Tryz.sizeOf139
  v164 := Tryz.zeroValue139 }
theorem Tryz.Builder_Extra_156 : Builder.Extra Tryz.prog Tryz.lays156_ren := {
  sizeBuilder := by kernel_rfl
  liesBuilder := by kernel_rfl
  t5 := Tryz.underlying5
  a5 := Tryz.isAgg5
  z5 := Tryz.sizeOf5
  v5 := Tryz.zeroValue5
  infoByte := by kernel_rfl
  cellsByte := by kernel_rfl
  sizeByte := by kernel_rfl
  neB5 := by decide }
open Go.RowKit in
theorem Tryz.strings_Join_none (a : Option Addr) (c : Nat) (sep : ByteArray) (w : World) :
    Calls Tryz.prog 73 #[.slice a 0 c, .string sep] w fun e w' => e = .returned (.string ⟨#[]⟩) ∧ w' = w := Any.strings_Join_none Tryz.lays156 Tryz.Builder_Extra_156 a c sep w
open Go.RowKit in
theorem Tryz.strings_Join (bk o c : Nat) (xs : List ByteArray) (sep : ByteArray) (w : World) (hcells : ∀ (j : Nat) x, xs[j]? = some x → w.cell? ⟨bk, o + j, none⟩ = some (.string x)) (hbk : bk < w.heap.size) (hN : xs.length ≤ 140737488355328) (hcap : xs.length ≤ c) (hlen : (Lib.join (xs.map (·.data.toList)) sep.data.toList).length ≤ 140737488355328) :
    Calls Tryz.prog 73 #[.slice (some ⟨bk, o, none⟩) xs.length c, .string sep] w fun e w' => e = .returned (.string ⟨(Lib.join (xs.map (·.data.toList)) sep.data.toList).toArray⟩) ∧ Below w.heap.size w w' := Any.strings_Join Tryz.lays156 Tryz.Builder_Extra_156 bk o c xs sep w hcells hbk hN hcap hlen
def Tryz.lays103_ren : Go.Shelf.Ren := ⟨fun | 103 => 32 | 210 => 52 | 206 => 31 | n => n, fun | 9 => 9 | 4 => 4 | 24 => 66 | 3 => 3 | n => n, fun | n => n⟩
theorem Tryz.lays103 : Go.Proofs.Lays.n103 Tryz.prog Tryz.lays103_ren := {
  mixed := by kernel_rfl
  f103 := Tryz.func32.trans (congrArg some (by kernel_rfl))
  f206 := Tryz.func31.trans (congrArg some (by kernel_rfl))
  f210 := Tryz.func52.trans (congrArg some (by kernel_rfl))
  t3 := Tryz.underlying3
  a3 := Tryz.isAgg3
  z3 := Tryz.sizeOf3
  v3 := Tryz.zeroValue3
  t4 := Tryz.underlying4
  a4 := Tryz.isAgg4
  z4 := Tryz.sizeOf4
  v4 := Tryz.zeroValue4
  t9 := Tryz.underlying9
  a9 := Tryz.isAgg9
  z9 := Tryz.sizeOf9
  v9 := Tryz.zeroValue9
  t24 := Tryz.underlying66
  a24 := Tryz.isAgg66
  z24 := Tryz.sizeOf66
  v24 := Tryz.zeroValue66 }
open Go.RowKit in
theorem Tryz.strings_CutPrefix (s p : ByteArray) (w : World) :
    Calls Tryz.prog 32 #[.string s, .string p] w fun e w' => e = .returned (.tuple #[.string ⟨(Lib.trimPrefix s.data.toList p.data.toList).toArray⟩, .bool (Lib.hasPrefix s.data.toList p.data.toList)]) ∧ w' = w := Any.strings_CutPrefix Tryz.lays103 s p w
def Tryz.lays190_ren : Go.Shelf.Ren := ⟨fun | 190 => 51 | 125 => 75 | 258 => 74 | 128 => 98 | 129 => 99 | 302 => 89 | 303 => 90 | 304 => 91 | 305 => 92 | 306 => 93 | 307 => 94 | 308 => 95 | 309 => 96 | 310 => 97 | 333 => 108 | 329 => 109 | 330 => 110 | 334 => 111 | 335 => 112 | 336 => 113 | 344 => 124 | n => n, fun | 31 => 26 | 9 => 9 | 3 => 3 | 46 => 99 | 0 => 0 | 51 => 122 | 53 => 124 | 4 => 4 | 183 => 115 | 182 => 114 | 131 => 119 | 5 => 5 | 218 => 131 | 222 => 135 | 228 => 142 | 229 => 143 | n => n, fun | n => n⟩
theorem Tryz.lays190 : Go.Proofs.Lays.n190 Tryz.prog Tryz.lays190_ren := {
  mixed := by kernel_rfl
  f125 := Tryz.func75.trans (congrArg some (by kernel_rfl))
  f128 := Tryz.func98.trans (congrArg some (by kernel_rfl))
  f129 := Tryz.func99.trans (congrArg some (by kernel_rfl))
  f190 := Tryz.func51.trans (congrArg some (by kernel_rfl))
  f258 := Tryz.func74.trans (congrArg some (by kernel_rfl))
  f302 := Tryz.func89.trans (congrArg some (by kernel_rfl))
  f303 := Tryz.func90.trans (congrArg some (by kernel_rfl))
  f304 := Tryz.func91.trans (congrArg some (by kernel_rfl))
  f305 := Tryz.func92.trans (congrArg some (by kernel_rfl))
  f306 := Tryz.func93.trans (congrArg some (by kernel_rfl))
  f307 := Tryz.func94.trans (congrArg some (by kernel_rfl))
  f308 := Tryz.func95.trans (congrArg some (by kernel_rfl))
  f309 := Tryz.func96.trans (congrArg some (by kernel_rfl))
  f310 := Tryz.func97.trans (congrArg some (by kernel_rfl))
  f329 := Tryz.func109.trans (congrArg some (by kernel_rfl))
  f330 := Tryz.func110.trans (congrArg some (by kernel_rfl))
  f333 := Tryz.func108.trans (congrArg some (by kernel_rfl))
  f334 := Tryz.func111.trans (congrArg some (by kernel_rfl))
  f335 := Tryz.func112.trans (congrArg some (by kernel_rfl))
  f336 := Tryz.func113.trans (congrArg some (by kernel_rfl))
  f344 := Tryz.func124.trans (congrArg some (by kernel_rfl))
  t0 := Tryz.underlying0
  a0 := Tryz.isAgg0
  z0 := Tryz.sizeOf0
  v0 := Tryz.zeroValue0
  t3 := Tryz.underlying3
  a3 := Tryz.isAgg3
  z3 := Tryz.sizeOf3
  v3 := Tryz.zeroValue3
  t4 := Tryz.underlying4
  a4 := Tryz.isAgg4
  z4 := Tryz.sizeOf4
  v4 := Tryz.zeroValue4
  t5 := Tryz.underlying5
  a5 := Tryz.isAgg5
  z5 := Tryz.sizeOf5
  v5 := Tryz.zeroValue5
  t9 := Tryz.underlying9
  a9 := Tryz.isAgg9
  z9 := Tryz.sizeOf9
  v9 := Tryz.zeroValue9
  t31 := Tryz.underlying26
  a31 := Tryz.isAgg26
  z31 := Tryz.sizeOf26
  v31 := Tryz.zeroValue26
  t46 := Tryz.underlying99
  a46 := Tryz.isAgg99
  z46 := Tryz.sizeOf99
  v46 := Tryz.zeroValue99
  t51 := Tryz.underlying122
  a51 := Tryz.isAgg122
  z51 := Tryz.sizeOf122
  v51 := Tryz.zeroValue122
  t53 := Tryz.underlying124
  a53 := Tryz.isAgg124
  z53 := Tryz.sizeOf124
  v53 := Tryz.zeroValue124
  t131 := Tryz.underlying119
  a131 := Tryz.isAgg119
  z131 := Tryz.sizeOf119
  v131 := Tryz.zeroValue119
  t182 := Tryz.underlying114
  a182 := Tryz.isAgg114
  z182 := Tryz.sizeOf114
  v182 := Tryz.zeroValue114
  t183 := Tryz.underlying115
  a183 := Tryz.isAgg115
  z183 := Tryz.sizeOf115
  v183 := Tryz.zeroValue115
  t218 := Tryz.underlying131
  a218 := Tryz.isAgg131
  z218 := Tryz.sizeOf131
  v218 := Tryz.zeroValue131
  t222 := Tryz.underlying135
  a222 := Tryz.isAgg135
  z222 := Tryz.sizeOf135
  v222 := Tryz.zeroValue135
  t228 := Tryz.underlying142
  a228 := Tryz.isAgg142
  z228 := Tryz.sizeOf142
  v228 := Tryz.zeroValue142
  t229 := Tryz.underlying143
  a229 := Tryz.isAgg143
  z229 := Tryz.sizeOf143
  v229 := Tryz.zeroValue143 }
open Go.Sort Go.RowKit in
theorem Tryz.slices_Sort_string (blk off cap : Nat) (ss : List (List UInt8)) (w : World) (hH : Holds encStr w blk off ss.toArray) (hblk : blk < w.heap.size) (hsz : ss.length < 4611686018427387904) :
    Calls Tryz.prog 51 #[.slice (some ⟨blk, off, none⟩) ss.length cap] w fun e w' =>
      e = .returned (.tuple #[]) ∧ ∃ n os, w' = grow (putRow encStr (Sort.ahead w n) blk off (ss.mergeSort fun x y => decide (x ≤ y)).toArray) os := Any.slices_Sort_string Tryz.lays190 blk off cap ss w hH hblk hsz
def Tryz.laysGw17_ren : Go.Shelf.Ren := ⟨fun | 17 => 79 | 15 => 104 | 20 => 119 | n => n, fun | 9 => 9 | 23 => 41 | 4 => 4 | 3 => 3 | 0 => 0 | 21 => 21 | n => n, fun | n => n⟩
theorem Tryz.laysGw17 : Go.Proofs.LaysGw.n17 Tryz.prog Tryz.laysGw17_ren := {
  mixed := by kernel_rfl
  f15 := Tryz.func104.trans (congrArg some (by kernel_rfl))
  f17 := Tryz.func79.trans (congrArg some (by kernel_rfl))
  f20 := Tryz.func119.trans (congrArg some (by kernel_rfl))
  t0 := Tryz.underlying0
  a0 := Tryz.isAgg0
  z0 := Tryz.sizeOf0
  v0 := Tryz.zeroValue0
  i0 := by kernel_rfl
  t3 := Tryz.underlying3
  a3 := Tryz.isAgg3
  z3 := Tryz.sizeOf3
  v3 := Tryz.zeroValue3
  i3 := by kernel_rfl
  t4 := Tryz.underlying4
  a4 := Tryz.isAgg4
  z4 := Tryz.sizeOf4
  v4 := Tryz.zeroValue4
  i4 := by kernel_rfl
  t9 := Tryz.underlying9
  a9 := Tryz.isAgg9
  z9 := Tryz.sizeOf9
  v9 := Tryz.zeroValue9
  i9 := by kernel_rfl
  t21 := Tryz.underlying21
  a21 := Tryz.isAgg21
  z21 := Tryz.sizeOf21
  v21 := Tryz.zeroValue21
  i21 := by kernel_rfl
  t23 := Tryz.underlying41
  a23 := Tryz.isAgg41
  z23 := Tryz.sizeOf41
  v23 := Tryz.zeroValue41
  i23 := by kernel_rfl }
open Go.RowKit Go.Lib in
theorem Tryz.strings_ContainsFunc (g : Nat) (lb : Array Value) (eg : ∀ args w, (callFunc g args).run Tryz.prog w = .ok (.enter g args) w) (p : Nat → Bool) (s : ByteArray) (w : World) (hp : PredAt Tryz.prog g lb encR p w) :
    Calls Tryz.prog 79 #[.string s, .func (.func g) #[] lb] w fun e w' => e = .returned (.bool (decide (0 ≤ Lib.idxFunc p true s))) ∧ Below w.heap.size w w' := Any.strings_ContainsFunc Tryz.laysGw17 g lb eg p s w hp
def Tryz.lays99_ren : Go.Shelf.Ren := ⟨fun | 99 => 14 | 206 => 31 | n => n, fun | 9 => 9 | 4 => 4 | 3 => 3 | n => n, fun | n => n⟩
theorem Tryz.lays99 : Go.Proofs.Lays.n99 Tryz.prog Tryz.lays99_ren := {
  mixed := by kernel_rfl
  f99 := Tryz.func14.trans (congrArg some (by kernel_rfl))
  f206 := Tryz.func31.trans (congrArg some (by kernel_rfl))
  t3 := Tryz.underlying3
  a3 := Tryz.isAgg3
  z3 := Tryz.sizeOf3
  v3 := Tryz.zeroValue3
  t4 := Tryz.underlying4
  a4 := Tryz.isAgg4
  z4 := Tryz.sizeOf4
  v4 := Tryz.zeroValue4
  t9 := Tryz.underlying9
  a9 := Tryz.isAgg9
  z9 := Tryz.sizeOf9
  v9 := Tryz.zeroValue9 }
open Go.RowKit Go.Lib in
theorem Tryz.strings_HasPrefix (s p : ByteArray) (w : World) :
    Calls Tryz.prog 14 #[.string s, .string p] w fun e w' => e = .returned (.bool (Lib.hasPrefix s.data.toList p.data.toList)) ∧ w' = w := Any.strings_HasPrefix Tryz.lays99 s p w
def Tryz.lays146_ren : Go.Shelf.Ren := ⟨fun | 146 => 33 | 221 => 53 | 268 => 76 | 138 => 77 | 143 => 78 | 195 => 100 | 197 => 101 | 218 => 102 | 219 => 103 | 260 => 114 | 217 => 115 | 225 => 116 | 224 => 117 | 267 => 118 | 266 => 125 | 314 => 126 | n => n, fun | 9 => 9 | 31 => 26 | 3 => 3 | 4 => 4 | 0 => 0 | 105 => 125 | 21 => 21 | 5 => 5 | 46 => 99 | 119 => 145 | 139 => 148 | 138 => 147 | 146 => 149 | 51 => 122 | n => n, fun | 1 => 0 | 3 => 1 | 4 => 2 | n => n⟩
theorem Tryz.lays146 : Go.Proofs.Lays.n146 Tryz.prog Tryz.lays146_ren := {
  mixed := by kernel_rfl
  f138 := Tryz.func77.trans (congrArg some (by kernel_rfl))
  f143 := Tryz.func78.trans (congrArg some (by kernel_rfl))
  f146 := Tryz.func33.trans (congrArg some (by kernel_rfl))
  f195 := Tryz.func100.trans (congrArg some (by kernel_rfl))
  f197 := Tryz.func101.trans (congrArg some (by kernel_rfl))
  f217 := Tryz.func115.trans (congrArg some (by kernel_rfl))
  f218 := Tryz.func102.trans (congrArg some (by kernel_rfl))
  f219 := Tryz.func103.trans (congrArg some (by kernel_rfl))
  f221 := Tryz.func53.trans (congrArg some (by kernel_rfl))
  f224 := Tryz.func117.trans (congrArg some (by kernel_rfl))
  f225 := Tryz.func116.trans (congrArg some (by kernel_rfl))
  f260 := Tryz.func114.trans (congrArg some (by kernel_rfl))
  f266 := Tryz.func125.trans (congrArg some (by kernel_rfl))
  f267 := Tryz.func118.trans (congrArg some (by kernel_rfl))
  f268 := Tryz.func76.trans (congrArg some (by kernel_rfl))
  f314 := Tryz.func126.trans (congrArg some (by kernel_rfl))
  t0 := Tryz.underlying0
  a0 := Tryz.isAgg0
  z0 := Tryz.sizeOf0
  v0 := Tryz.zeroValue0
  t3 := Tryz.underlying3
  a3 := Tryz.isAgg3
  z3 := Tryz.sizeOf3
  v3 := Tryz.zeroValue3
  t4 := Tryz.underlying4
  a4 := Tryz.isAgg4
  z4 := Tryz.sizeOf4
  v4 := Tryz.zeroValue4
  t5 := Tryz.underlying5
  a5 := Tryz.isAgg5
  z5 := Tryz.sizeOf5
  v5 := Tryz.zeroValue5
  t9 := Tryz.underlying9
  a9 := Tryz.isAgg9
  z9 := Tryz.sizeOf9
  v9 := Tryz.zeroValue9
  t21 := Tryz.underlying21
  a21 := Tryz.isAgg21
  z21 := Tryz.sizeOf21
  v21 := Tryz.zeroValue21
  t31 := Tryz.underlying26
  a31 := Tryz.isAgg26
  z31 := Tryz.sizeOf26
  v31 := Tryz.zeroValue26
  t46 := Tryz.underlying99
  a46 := Tryz.isAgg99
  z46 := Tryz.sizeOf99
  v46 := Tryz.zeroValue99
  t51 := Tryz.underlying122
  a51 := Tryz.isAgg122
  z51 := Tryz.sizeOf122
  v51 := Tryz.zeroValue122
  t105 := Tryz.underlying125
  a105 := Tryz.isAgg125
  z105 := Tryz.sizeOf125
  v105 := Tryz.zeroValue125
  t119 := Tryz.underlying145
  a119 := Tryz.isAgg145
  z119 := Tryz.sizeOf145
  t138 := Tryz.underlying147
  a138 := Tryz.isAgg147
  z138 := Tryz.sizeOf147
  v138 := Tryz.zeroValue147
  t139 := Tryz.underlying148
  a139 := Tryz.isAgg148
  z139 := Tryz.sizeOf148
  v139 := Tryz.zeroValue148
  t146 := Tryz.underlying149
  a146 := Tryz.isAgg149
  z146 := Tryz.sizeOf149
  v146 := Tryz.zeroValue149
  g1 := by kernel_rfl
  g3 := by kernel_rfl
  g4 := by kernel_rfl }
open Go.RowKit Go.Lib in
theorem Tryz.strings_Split (s sep : ByteArray) (m : Int) (w : World) (hs : s.size < 4294967281) (hm : w.cell? ⟨0, 0, none⟩ = some (.int .i64 m)) (h1 : 1 ≤ sep.size) :
    Calls Tryz.prog 33 #[.string s, .string sep] w fun e w' =>
      e = .returned (.slice (some ⟨w.heap.size, 0, none⟩) (Lib.countB s sep + 1) (Lib.countB s sep + 1)) ∧ w' = w.alloc (.cells ((Lib.splitB sep 0 (Lib.countB s sep) s).map Value.string).toArray 9) := Any.strings_Split Tryz.lays146 (by kernel_rfl) s sep m w hs hm h1
def Tryz.laysM146_ren : Go.Shelf.Ren := ⟨fun | 146 => 33 | 221 => 53 | 268 => 76 | 138 => 77 | 143 => 78 | 195 => 100 | 197 => 101 | 218 => 102 | 219 => 103 | 260 => 114 | 217 => 115 | 225 => 116 | 224 => 117 | 267 => 118 | 266 => 125 | 314 => 126 | n => n, fun | 9 => 9 | 31 => 26 | 3 => 3 | 4 => 4 | 0 => 0 | 105 => 125 | 21 => 21 | 5 => 5 | 46 => 99 | 119 => 145 | 139 => 148 | 138 => 147 | 146 => 149 | 51 => 122 | n => n, fun | 1 => 0 | 3 => 1 | 4 => 2 | n => n⟩
theorem Tryz.laysM146 : Go.Proofs.LaysM.n146 Tryz.prog Tryz.laysM146_ren := {
  mixed := by kernel_rfl
  f138 := Tryz.func77.trans (congrArg some (by kernel_rfl))
  f143 := Tryz.func78.trans (congrArg some (by kernel_rfl))
  f146 := Tryz.func33.trans (congrArg some (by kernel_rfl))
  f195 := Tryz.func100.trans (congrArg some (by kernel_rfl))
  f197 := Tryz.func101.trans (congrArg some (by kernel_rfl))
  f217 := Tryz.func115.trans (congrArg some (by kernel_rfl))
  f218 := Tryz.func102.trans (congrArg some (by kernel_rfl))
  f219 := Tryz.func103.trans (congrArg some (by kernel_rfl))
  f221 := Tryz.func53.trans (congrArg some (by kernel_rfl))
  f224 := Tryz.func117.trans (congrArg some (by kernel_rfl))
  f225 := Tryz.func116.trans (congrArg some (by kernel_rfl))
  f260 := Tryz.func114.trans (congrArg some (by kernel_rfl))
  f266 := Tryz.func125.trans (congrArg some (by kernel_rfl))
  f267 := Tryz.func118.trans (congrArg some (by kernel_rfl))
  f268 := Tryz.func76.trans (congrArg some (by kernel_rfl))
  f314 := Tryz.func126.trans (congrArg some (by kernel_rfl))
  t0 := Tryz.underlying0
  a0 := Tryz.isAgg0
  z0 := Tryz.sizeOf0
  v0 := Tryz.zeroValue0
  t3 := Tryz.underlying3
  a3 := Tryz.isAgg3
  z3 := Tryz.sizeOf3
  v3 := Tryz.zeroValue3
  t4 := Tryz.underlying4
  a4 := Tryz.isAgg4
  z4 := Tryz.sizeOf4
  v4 := Tryz.zeroValue4
  t5 := Tryz.underlying5
  a5 := Tryz.isAgg5
  z5 := Tryz.sizeOf5
  v5 := Tryz.zeroValue5
  t9 := Tryz.underlying9
  a9 := Tryz.isAgg9
  z9 := Tryz.sizeOf9
  v9 := Tryz.zeroValue9
  t21 := Tryz.underlying21
  a21 := Tryz.isAgg21
  z21 := Tryz.sizeOf21
  v21 := Tryz.zeroValue21
  t31 := Tryz.underlying26
  a31 := Tryz.isAgg26
  z31 := Tryz.sizeOf26
  v31 := Tryz.zeroValue26
  t46 := Tryz.underlying99
  a46 := Tryz.isAgg99
  z46 := Tryz.sizeOf99
  v46 := Tryz.zeroValue99
  t51 := Tryz.underlying122
  a51 := Tryz.isAgg122
  z51 := Tryz.sizeOf122
  v51 := Tryz.zeroValue122
  t105 := Tryz.underlying125
  a105 := Tryz.isAgg125
  z105 := Tryz.sizeOf125
  v105 := Tryz.zeroValue125
  t119 := Tryz.underlying145
  a119 := Tryz.isAgg145
  z119 := Tryz.sizeOf145
  t138 := Tryz.underlying147
  a138 := Tryz.isAgg147
  z138 := Tryz.sizeOf147
  v138 := Tryz.zeroValue147
  t139 := Tryz.underlying148
  a139 := Tryz.isAgg148
  z139 := Tryz.sizeOf148
  v139 := Tryz.zeroValue148
  t146 := Tryz.underlying149
  a146 := Tryz.isAgg149
  z146 := Tryz.sizeOf149
  v146 := Tryz.zeroValue149
  g1 := by kernel_rfl
  g3 := by kernel_rfl
  g4 := by kernel_rfl
  i0 := by kernel_rfl
  i3 := by kernel_rfl
  i4 := by kernel_rfl
  i5 := by kernel_rfl
  i9 := by kernel_rfl
  i21 := by kernel_rfl
  i31 := by kernel_rfl
  i46 := by kernel_rfl
  i51 := by kernel_rfl
  i105 := by kernel_rfl
  i138 := by kernel_rfl
  i139 := by kernel_rfl
  i146 := by kernel_rfl
  m1 := by kernel_rfl
  s1_3 := fun w h => Go.Proofs.cell_of_shapedOpen_int (zero := #[.int .i64 0]) (t := 3) h (of_decide_eq_true (by kernel_rfl)) (by kernel_rfl) rfl (by kernel_rfl) (by kernel_rfl) Tryz.underlying3
  m3 := by kernel_rfl
  m4 := by kernel_rfl }
def Tryz.lays229_ren : Go.Shelf.Ren := ⟨fun | 229 => 15 | n => n, fun | 9 => 9 | 40 => 41 | 31 => 26 | 152 => 63 | 3 => 3 | 0 => 0 | 4 => 4 | 21 => 21 | 154 => 65 | n => n, fun | n => n⟩
theorem Tryz.lays229 : Go.Proofs.Lays.n229 Tryz.prog Tryz.lays229_ren := {
  mixed := by kernel_rfl
  f229 := Tryz.func15.trans (congrArg some (by kernel_rfl))
  t0 := Tryz.underlying0
  a0 := Tryz.isAgg0
  z0 := Tryz.sizeOf0
  v0 := Tryz.zeroValue0
  t3 := Tryz.underlying3
  a3 := Tryz.isAgg3
  z3 := Tryz.sizeOf3
  v3 := Tryz.zeroValue3
  t4 := Tryz.underlying4
  a4 := Tryz.isAgg4
  z4 := Tryz.sizeOf4
  v4 := Tryz.zeroValue4
  t9 := Tryz.underlying9
  a9 := Tryz.isAgg9
  z9 := Tryz.sizeOf9
  v9 := Tryz.zeroValue9
  t21 := Tryz.underlying21
  a21 := Tryz.isAgg21
  z21 := Tryz.sizeOf21
  v21 := Tryz.zeroValue21
  t31 := Tryz.underlying26
  a31 := Tryz.isAgg26
  z31 := Tryz.sizeOf26
  v31 := Tryz.zeroValue26
  t40 := Tryz.underlying41
  a40 := Tryz.isAgg41
  z40 := Tryz.sizeOf41
  v40 := Tryz.zeroValue41
  t152 := Tryz.underlying63
  a152 := Tryz.isAgg63
  z152 := Tryz.sizeOf63
  v152 := Tryz.zeroValue63
  t154 := Tryz.underlying65
  a154 := Tryz.isAgg65
  z154 := Tryz.sizeOf65
  v154 := Tryz.zeroValue65 }
open Go.RowKit Go.Lib in
theorem Tryz.strings_FieldsFunc_runes (g : Nat) (lb : Array Value) (eg : ∀ args w, (callFunc g args).run Tryz.prog w = .ok (.enter g args) w) (p : Nat → Bool) (s : ByteArray) (w : World) (hs : s.size ≤ 4294967296) (hp : PredAtRunes Tryz.prog g lb p w) :
    Calls Tryz.prog 15 #[.string s, .func (.func g) #[] lb] w fun e w' => ∃ A, e = .returned (.slice (some ⟨A, 0, none⟩) (Lib.goFieldsP p s).length (Lib.goFieldsP p s).length) ∧ w.heap.size ≤ A ∧
      w'.ownsRow w.heap.size 9 1 (.slice (some ⟨A, 0, none⟩) (Lib.goFieldsP p s).length (Lib.goFieldsP p s).length) (Lib.goFieldsP p s).length ((Lib.goFieldsP p s).map Value.string) ∧ Below w.heap.size w w' := Any.strings_FieldsFunc_runes Tryz.lays229 g lb eg p s w hs hp (by kernel_rfl) (by kernel_rfl)
open Go.RowKit Go.Sort in
theorem Tryz.slices_Sort_string_none (p : Option Addr) (cap : Nat) (w : World) :
    Calls Tryz.prog 51 #[.slice p 0 cap] w fun e w' => e = .returned (.tuple #[]) ∧ w' = w := Any.slices_Sort_string_none Tryz.lays190 p cap w
end Go.Proofs

/- The name test of package path agrees with the byte-wise test, at every string of at most the model's longest length; the search for the first bad component, at every slice of strings. -/
namespace Go.Proofs.YtoeiaffkedkepaaGreatDoor
open Go.RowKit

theorem decodeN_ascii {n b0 b1 b2 b3 : Nat} (h : b0 < 128) : Lib.decodeN n b0 b1 b2 b3 = (b0, 1) := by
  unfold Lib.decodeN; rw [if_pos h]
theorem decodeN_high {n b0 b1 b2 b3 : Nat} (h : 128 ≤ b0) : 128 ≤ (Lib.decodeN n b0 b1 b2 b3).1 := by
  unfold Lib.decodeN
  rw [if_neg (by omega)]
  repeat' split
  all_goals simp
  all_goals omega
theorem nameR_high {r : Int} (h : 128 ≤ r) : nameR r = false := by
  unfold nameR; rw [decide_eq_false_iff_not]; omega
theorem get_bang (s : ByteArray) (i : Nat) (h : i < s.size) : s.get! i = s[i] := by
  show s.data[i]! = s.data[i]'h
  exact getElem!_pos s.data i h

/-- The first rune that is not allowed exists exactly where some byte is not allowed. -/
theorem idx_bytes (s : ByteArray) : ∀ (f pos : Nat), s.size - pos ≤ f →
    (0 ≤ Lib.idxFuncFrom (fun r => !nameR (r : Int)) true s f pos ↔ ∃ j, pos ≤ j ∧ ∃ h : j < s.size, nameR (s[j].toNat : Int) = false)
  | 0, pos, hf => by
    rw [Lib.idxFuncFrom_end _ _ _ _ _ (by omega)]
    constructor
    · intro h; omega
    · rintro ⟨j, hj, h, _⟩; omega
  | f + 1, pos, hf => by
    by_cases hp : pos < s.size
    · unfold Lib.idxFuncFrom
      rw [if_pos hp, Lib.decode_at, get_bang s pos hp]
      by_cases hb : s[pos].toNat < 128
      · rw [decodeN_ascii hb]
        cases hn : nameR (s[pos].toNat : Int) with
        | true =>
          rw [if_neg (by simp)]
          rw [idx_bytes s f (pos + 1) (by omega)]
          constructor
          · rintro ⟨j, hj, h⟩; exact ⟨j, by omega, h⟩
          · rintro ⟨j, hj, h, hx⟩
            by_cases e : j = pos
            · subst e; rw [hn] at hx; cases hx
            · exact ⟨j, by omega, h, hx⟩
        | false =>
          rw [if_pos (by simp)]
          exact ⟨fun _ => ⟨pos, Nat.le_refl _, hp, hn⟩, fun _ => by omega⟩
      · have hh := decodeN_high (n := s.size - pos) (b0 := s[pos].toNat) (b1 := (s.get! (pos + 1)).toNat) (b2 := (s.get! (pos + 2)).toNat) (b3 := (s.get! (pos + 3)).toNat) (by omega)
        rw [if_pos (by simp [nameR_high (r := ((Lib.decodeN (s.size - pos) s[pos].toNat (s.get! (pos + 1)).toNat (s.get! (pos + 2)).toNat (s.get! (pos + 3)).toNat).1 : Int)) (by omega)])]
        exact ⟨fun _ => ⟨pos, Nat.le_refl _, hp, nameR_high (by omega)⟩, fun _ => by omega⟩
    · rw [Lib.idxFuncFrom_end _ _ _ _ _ hp]
      constructor
      · intro h; omega
      · rintro ⟨j, hj, h, _⟩; omega
theorem idx_vbytes (s : ByteArray) : decide (0 ≤ Lib.idxFunc (fun r => !nameR (r : Int)) true s) = !vbytes s := by
  have h := idx_bytes s s.size 0 (by omega)
  unfold Lib.idxFunc
  rw [Bool.eq_iff_iff, decide_eq_true_iff, h]
  unfold vbytes
  simp
theorem predName (w : World) : PredAt Tryz.prog 80 #[] encR (fun r => !nameR (r : Int)) w := fun W r _ => by
  refine (isName1_any r W).mono ?_
  rintro e w' ⟨rfl, rfl⟩
  exact ⟨rfl, 0, rfl⟩
theorem eg_name1 : ∀ args w, (callFunc 80 args).run Tryz.prog w = .ok (.enter 80 args) w := enters_of Tryz.func80 (by kernel_rfl) rfl
theorem vshape_empty {s : ByteArray} (h : s.toList = []) : vshape s = false := by
  have : s.size = 0 := by
    rw [Lib.toList_data] at h
    have := congrArg List.length h
    simpa using this
  unfold vshape; rw [decide_eq_false_iff_not]; omega

theorem size_pos {s : ByteArray} (h : ¬ s.toList = []) : 1 ≤ s.size := by
  rw [Lib.toList_data] at h
  have := List.length_pos_iff.2 h
  have h2 : 0 < s.size := by simpa using this
  omega

set_option maxHeartbeats 400000 in
theorem isName_any (s : ByteArray) (w : World) (hs : s.size ≤ maxLen) :
    Calls Tryz.prog 55 #[.string s] w fun e w' => e = .returned (.bool (vname s)) ∧ Below w.heap.size w w' := by
  unfold maxLen at hs
  have hcon := Tryz.strings_ContainsFunc 80 #[] eg_name1 (fun r => !nameR (r : Int)) s w (predName w)
  rw [idx_vbytes] at hcon
  have HC := Lib.hid hcon
  clear hcon
  cases hsh : vshape s with
  | false =>
    have HV := Lib.hid hsh
    clear hsh
    go_enter Tryz.func55, Tryz.ntmps55
    go_wp2
    all_goals first | (go_ret; exact ⟨ret_bool (vname_bad HV.out), Below.refl _ _⟩) | (exfalso; have h := HV.out; unfold vshape at h; rw [decide_eq_false_iff_not] at h; refine h ⟨size_pos ‹¬ s.toList = []›, by omega, by assumption, by simp_all⟩)
  | true =>
    have HV := Lib.hid hsh
    obtain ⟨h1, h2, h3, h4⟩ := vshape_iff.1 hsh
    have h3' : (s.toList == [46]) = false := by simpa using h3
    have h4' : (s.toList == [46, 46]) = false := by simpa using h4
    have h5' : s.toList.isEmpty = false := by
      cases h : s.toList with
      | nil => rw [vshape_empty h] at hsh; cases hsh
      | cons => rfl
    clear hsh h3 h4
    go_enter Tryz.func55, Tryz.ntmps55
    go_wp2_with (go_at_call 79; refine HC.out.mono ?_; rintro e w' ⟨rfl, hb⟩)
    go_ret
    refine ⟨ret_bool ?_, hb⟩
    unfold vname; rw [HV.out]; simp

set_option maxHeartbeats 400000 in
theorem comp1_any (s : ByteArray) (w : World) (hs : s.size ≤ maxLen) :
    Calls Tryz.prog 54 #[.string s] w fun e w' => e = .returned (.bool (!vname s)) ∧ Below w.heap.size w w' := by
  go_enter Tryz.func54, Tryz.ntmps54
  go_wp2_with (go_at_call 55; refine (isName_any _ _ hs).mono ?_; rintro e w' ⟨rfl, hb⟩)
  go_ret
  exact ⟨rfl, hb⟩

end Go.Proofs.YtoeiaffkedkepaaGreatDoor

/- checkComponents at every slice of strings: the number of the first component that is no name, or too many components. Conditions: the slice's cells lie in memory as they read; each string is of at most the model's longest length. -/
namespace Go.Proofs.YtoeiaffkedkepaaGreatDoor
open Go.RowKit

/-- The slice value v reads as the strings xs, all of it below block B. -/
def Strs (w : World) (B : Nat) (v : Value) (xs : List ByteArray) : Prop :=
  ∃ a c, v = .slice a xs.length c ∧ xs.length ≤ c ∧ xs.length ≤ 35184372088832 ∧ (∀ x ∈ xs, x.size ≤ maxLen) ∧
    (0 < xs.length → ∃ b o, a = some ⟨b, o, none⟩ ∧ b < B ∧ ∀ j, j < xs.length → w.cell? ⟨b, o + j, none⟩ = some (.string (xs.getD j ByteArray.empty)))
theorem Strs.below {w w' : World} {B : Nat} {v : Value} {xs : List ByteArray} (h : Strs w B v xs) (hb : Below B w w') : Strs w' B v xs := by
  obtain ⟨a, c, hv, hc, hl, hs, hx⟩ := h
  refine ⟨a, c, hv, hc, hl, hs, fun h0 => ?_⟩
  obtain ⟨b, o, ha, hB, hj⟩ := hx h0
  exact ⟨b, o, ha, hB, fun j h => (hb.cell (p := ⟨b, o + j, none⟩) hB).trans (hj j h)⟩
theorem Strs.more {w : World} {B B' : Nat} {v : Value} {xs : List ByteArray} (h : Strs w B v xs) (hB : B ≤ B') : Strs w B' v xs := by
  obtain ⟨a, c, hv, hc, hl, hs, hx⟩ := h
  refine ⟨a, c, hv, hc, hl, hs, fun h0 => ?_⟩
  obtain ⟨b, o, ha, hb, hj⟩ := hx h0
  exact ⟨b, o, ha, by omega, hj⟩

theorem Strs.set {w : World} {B g o n c : Nat} {xs : List ByteArray} (h : Strs w B (.slice (some ⟨g, o, none⟩) n c) xs) {p : Addr} (hp : g ≠ p.block) (u : Value) : Strs (w.setCell p u) B (.slice (some ⟨g, o, none⟩) n c) xs := by
  obtain ⟨a, c', hv, hc, hl, hs, hx⟩ := h
  refine ⟨a, c', hv, hc, hl, hs, fun h0 => ?_⟩
  obtain ⟨b, o', ha, hB, hj⟩ := hx h0
  subst ha
  injection hv with h1
  injection h1 with h1
  injection h1 with h1 h2
  subst h1
  exact ⟨_, _, rfl, hB, fun j hjl => (World.cell?_setCell_other w p _ u (fun e => hp (by rw [e]))).trans (hj j hjl)⟩
theorem Strs.alloc {w : World} {B : Nat} {v : Value} {xs : List ByteArray} (h : Strs w B v xs) (hB : B ≤ w.heap.size) (o : Obj) : Strs (w.alloc o) B v xs :=
  h.below ((Below.refl B w).alloc hB o)

/-- The place of the first string that is no name, or the number of strings. -/
def firstBad (xs : List ByteArray) : Nat := xs.findIdx fun x => !vname x
theorem firstBad_hit {xs : List ByteArray} {k : Nat} (hk : k < xs.length) (hb : vname (xs.getD k ByteArray.empty) = false) (hA : ∀ j, j < k → vname (xs.getD j ByteArray.empty) = true) : firstBad xs = k := by
  unfold firstBad
  rw [List.findIdx_eq hk]
  have e : ∀ j, (h : j < xs.length) → xs.getD j ByteArray.empty = xs[j] := fun j h => by rw [List.getD_eq_getElem?_getD, List.getElem?_eq_getElem h]; rfl
  refine ⟨by rw [← e k hk, hb]; rfl, fun j hj => ?_⟩
  rw [← e j (by omega), hA j hj]; rfl
theorem firstBad_miss {xs : List ByteArray} (hA : ∀ j, j < xs.length → vname (xs.getD j ByteArray.empty) = true) : firstBad xs = xs.length := by
  unfold firstBad
  rw [List.findIdx_eq_length]
  intro x hx
  obtain ⟨j, hj, rfl⟩ := List.mem_iff_getElem.1 hx
  have := hA j hj
  rw [List.getD_eq_getElem?_getD, List.getElem?_eq_getElem hj] at this
  simpa using this
/-- What slices.IndexFunc answers: the place of the first string that is no name, or -1. -/
def fbI (xs : List ByteArray) : Int := if firstBad xs < xs.length then (firstBad xs : Int) else -1
theorem fbI_hit {xs : List ByteArray} {k : Nat} (hk : k < xs.length) (hb : vname (xs.getD k ByteArray.empty) = false) (hA : ∀ j, j < k → vname (xs.getD j ByteArray.empty) = true) : (k : Int) = fbI xs := by
  unfold fbI; rw [firstBad_hit hk hb hA, if_pos hk]
theorem fbI_miss {xs : List ByteArray} (hA : ∀ j, j < xs.length → vname (xs.getD j ByteArray.empty) = true) : -1 = fbI xs := by
  unfold fbI; rw [firstBad_miss hA, if_neg (Nat.lt_irrefl _)]
theorem eg_comp1 : ∀ args w, (callFunc 54 args).run Tryz.prog w = .ok (.enter 54 args) w := enters_of Tryz.func54 (by kernel_rfl) rfl

set_option maxHeartbeats 400000 in
theorem indexFunc_any (v : Value) (xs : List ByteArray) (w : World) (h : Strs w w.heap.size v xs) :
    Calls Tryz.prog 39 #[v, .func (.func 54) #[] #[]] w fun e w' => e = .returned (.int .i64 (fbI xs)) ∧ Below w.heap.size w w' := by
  obtain ⟨a, c, rfl, hc, hl, hs, hx⟩ := h
  have eg := eg_comp1
  go_enter Tryz.func39, Tryz.ntmps39
  go_wp2
  go_loopg [5, 8] xs.length (fun gg _ s8 wr => ∃ kk : Nat, kk ≤ xs.length ∧ xs.length - kk ≤ gg ∧ s8 = .int .i64 kk ∧ Aside (Below w.heap.size w wr) ∧ Aside (∀ j, j < kk → vname (xs.getD j ByteArray.empty) = true))
  case atStart => exact ⟨0, Nat.zero_le _, by omega, rfl, Below.refl _ w, fun j hj => absurd hj (Nat.not_lt_zero _)⟩
  case round =>
    obtain ⟨kk, hkk, hg, rfl, BW, A⟩ := hrel
    by_cases hlt : kk < xs.length
    · have hltz : (kk : Int) < (xs.length : Int) := by omega
      obtain ⟨b, o, rfl, hb, hj⟩ := hx (by omega)
      have hcell : wr.cell? ⟨b, o + kk, none⟩ = some (.string (xs.getD kk ByteArray.empty)) := (BW.out.cell (p := ⟨b, o + kk, none⟩) hb).trans (hj kk hlt)
      have hsz : (xs.getD kk ByteArray.empty).size ≤ maxLen := by
        rw [List.getD_eq_getElem?_getD, List.getElem?_eq_getElem hlt]; exact hs _ (List.getElem_mem hlt)
      clear hx hs hj
      generalize hy : xs.getD kk ByteArray.empty = y at hcell hsz
      have B : Aside (xs.getD kk ByteArray.empty = y) := hy
      clear hy
      have hcall := fun W => comp1_any y W hsz
      clear hsz
      cases hq : vname y with
      | false =>
        rw [hq] at hcall
        have Q : Aside (vname y = false) := hq
        clear hq
        go_wp2_with (go_at_fn 54; refine (hcall _).mono ?_; rintro e w' ⟨rfl, hb'⟩)
        go_ret
        exact ⟨ret_int (fbI_hit hlt (by rw [B.out]; exact Q.out) A.out), BW.out.trans (hb'.mono BW.out.size)⟩
      | true =>
        rw [hq] at hcall
        have Q : Aside (vname y = true) := hq
        clear hq
        go_wp2_with (go_at_fn 54; refine (hcall _).mono ?_; rintro e w' ⟨rfl, hb'⟩)
        go_roundg (xs.length - (kk + 1))
        case measure => omega
        case rel =>
          refine ⟨kk + 1, by omega, by omega, by go_num, BW.out.trans (hb'.mono BW.out.size), (show Aside _ from fun j hj => ?_)⟩
          by_cases e : j = kk
          · subst e
            rw [B.out]; exact Q.out
          · exact A.out j (by omega)
    · have hltz : ¬ (kk : Int) < (xs.length : Int) := by omega
      have e : kk = xs.length := by omega
      have E : Aside (kk = xs.length) := e
      clear e
      go_wp2
      go_ret
      exact ⟨ret_int (fbI_miss fun j hj => A.out j (by have := E.out; omega)), BW.out⟩

/-- The fault of a list of components. -/
def compFault (xs : List ByteArray) : Int × Int := if firstBad xs < xs.length then (12, firstBad xs) else if 8 < xs.length then (10, 0) else (0, 0)
def compV (xs : List ByteArray) : Value := faultV (compFault xs).1 (compFault xs).2

theorem compV_bad {xs : List ByteArray} (h : 0 ≤ fbI xs) : faultV 12 (fbI xs) = compV xs := by
  unfold fbI at *; unfold compV compFault
  split at h
  · rename_i hh; rw [if_pos hh, if_pos hh]
  · omega
theorem compV_deep {xs : List ByteArray} (h : fbI xs < 0) (h8 : 8 < xs.length) : faultV 10 0 = compV xs := by
  unfold fbI at *; unfold compV compFault
  split at h
  · omega
  · rename_i hh; rw [if_neg hh, if_pos h8]
theorem compV_ok {xs : List ByteArray} (h : fbI xs < 0) (h8 : ¬ 8 < xs.length) : faultV 0 0 = compV xs := by
  unfold fbI at *; unfold compV compFault
  split at h
  · omega
  · rename_i hh; rw [if_neg hh, if_neg h8]

set_option maxHeartbeats 400000 in
theorem checkComponents_any (v : Value) (xs : List ByteArray) (w : World) (h : Strs w w.heap.size v xs) :
    Calls Tryz.prog 34 #[v] w fun e w' => e = .returned (compV xs) ∧ Below w.heap.size w w' := by
  have hcon := fun W (hb : Below w.heap.size w W) => indexFunc_any v xs W ((h.below hb).more hb.size)
  obtain ⟨a, c, rfl, hc, hl, hs, hx⟩ := h
  clear hs hx
  have HX : Hid (∀ i, fbI xs = i → 0 ≤ i → faultV 12 i = compV xs) := Lib.hid (fun i e h0 => by subst e; exact compV_bad h0)
  have HY : Hid (∀ i, fbI xs = i → i < 0 → 8 < xs.length → faultV 10 0 = compV xs) := Lib.hid (fun i e h0 h8 => by subst e; exact compV_deep h0 h8)
  have HZ : Hid (∀ i, fbI xs = i → i < 0 → ¬ 8 < xs.length → faultV 0 0 = compV xs) := Lib.hid (fun i e h0 h8 => by subst e; exact compV_ok h0 h8)
  generalize hi : fbI xs = i at hcon
  have HI := Lib.hid hi
  clear hi
  have HC := Lib.hid hcon
  clear hcon
  go_enter Tryz.func34, Tryz.ntmps34
  go_wp2_with fail
  refine (HC.out _ ((Below.refl _ _).alloc (Nat.le_refl _) _)).mono ?_
  rintro e w' ⟨rfl, hb'⟩
  obtain ⟨hcc, hff⟩ := bcell hb'
  have hz : w.heap.size + 1 ≤ w'.heap.size := by have := hb'.size; simp at this; omega
  have hB : Below w.heap.size w w' := ((Below.refl _ _).alloc (Nat.le_refl _) _).trans (hb'.mono (by simp))
  go_wp2
  · exact bodyPost_ret (v := faultV 12 i) (by simp [results, Tryz.results34, faultV, go_sem, hcc]) rfl ⟨by rw [HX.out i HI.out (by assumption)], (hB.setCell (by simp) _).setCell (by simp) _⟩
  · exact bodyPost_ret (v := faultV 10 0) (by simp [results, Tryz.results34, faultV, go_sem, hcc]) rfl ⟨by rw [HY.out i HI.out (by omega) (by omega)], (hB.setCell (by simp) _).setCell (by simp) _⟩
  · exact bodyPost_ret (v := faultV 0 0) (by simp [results, Tryz.results34, faultV, go_sem, hcc]) rfl ⟨by rw [HZ.out i HI.out (by omega) (by omega)], (hB.setCell (by simp) _).setCell (by simp) _⟩

end Go.Proofs.YtoeiaffkedkepaaGreatDoor

/- glob.matchComponents at every two slices of strings: the elements match the components. Conditions: the cells of both lie in memory as they read; no string is longer than two to the 31st bytes. -/
namespace Go.Proofs.YtoeiaffkedkepaaGreatDoor
open Go.RowKit

/-- An element that matches any number of components. -/
def starC (e : ByteArray) : Bool := e.toList == [42, 42]
/-- Elements match components. -/
def lmC (es cs : List ByteArray) : Bool := lm starC mat es cs

theorem comps1_any (v : Value) (xs : List ByteArray) (i n : Nat) (w : World) (hi : i < xs.length) (hc : w.cell? ⟨n, 0, none⟩ = some v) (h : Strs w w.heap.size v xs) :
    Calls Tryz.prog 35 #[.int .i64 i, .pointer (some ⟨n, 0, none⟩)] w fun e w' => e = .returned (.bool (starC xs[i])) ∧ Below w.heap.size w w' := by
  obtain ⟨a, c, rfl, hcap, hl, hf, hcell⟩ := h
  obtain ⟨b, o, rfl, hb, hcl⟩ := hcell (by omega)
  have h1 := hcl i hi
  rw [List.getD_eq_getElem?_getD, List.getElem?_eq_getElem hi, Option.getD_some] at h1
  clear hcl hf hcell
  have HX := Lib.hid (show ∀ y : ByteArray, starC y = (y.toList == [42, 42]) from fun _ => rfl)
  generalize xs[i] = y at *
  go_enter Tryz.func35, Tryz.ntmps35
  go_wp2
  go_ret
  exact ⟨ret_bool (HX.out y).symm, Below.refl _ _⟩
theorem eg_comps1 : ∀ args w, (callFunc 35 args).run Tryz.prog w = .ok (.enter 35 args) w := enters_of Tryz.func35 (by kernel_rfl) rfl

set_option maxHeartbeats 800000 in
theorem comps2_any (v u : Value) (xs ys : List ByteArray) (i j n k : Nat) (w : World) (hi : i < xs.length) (hj : j < ys.length) (hc : w.cell? ⟨n, 0, none⟩ = some v) (hd : w.cell? ⟨k, 0, none⟩ = some u)
    (h : Strs w w.heap.size v xs) (g : Strs w w.heap.size u ys) (hx : ∀ x ∈ xs, x.size ≤ 2147483648) (hy : ∀ x ∈ ys, x.size ≤ 2147483648) :
    Calls Tryz.prog 36 #[.int .i64 i, .int .i64 j, .pointer (some ⟨n, 0, none⟩), .pointer (some ⟨k, 0, none⟩)] w fun e w' => e = .returned (.bool (mat xs[i] ys[j])) ∧ Below w.heap.size w w' := by
  obtain ⟨a, c, rfl, hcap, hl, hf, hcell⟩ := h
  obtain ⟨b, o, rfl, hb, hcl⟩ := hcell (by omega)
  obtain ⟨a2, c2, rfl, hcap2, hl2, hf2, hcell2⟩ := g
  obtain ⟨b2, o2, rfl, hb2, hcl2⟩ := hcell2 (by omega)
  have h1 := hcl i hi
  have h2 := hcl2 j hj
  rw [List.getD_eq_getElem?_getD, List.getElem?_eq_getElem hi, Option.getD_some] at h1
  rw [List.getD_eq_getElem?_getD, List.getElem?_eq_getElem hj, Option.getD_some] at h2
  have CM := Lib.hid (fun W => matchBytes_any xs[i] ys[j] W (hx _ (List.getElem_mem hi)) (hy _ (List.getElem_mem hj)))
  clear hcl hf hcell hcl2 hf2 hcell2 hx hy
  generalize xs[i] = x at *
  generalize ys[j] = y at *
  have hn := cell_lt hc
  have hk := cell_lt hd
  go_enter Tryz.func36, Tryz.ntmps36
  go_wp2_with fail
  go_region_held3 (fun w' => w'.cell? ⟨n, 0, none⟩ = some (.slice (some ⟨b, o, none⟩) xs.length c) ∧ w'.cell? ⟨k, 0, none⟩ = some (.slice (some ⟨b2, o2, none⟩) ys.length c2) ∧ w'.cell? ⟨b, o + i, none⟩ = some (.string x) ∧ w'.cell? ⟨b2, o2 + j, none⟩ = some (.string y))
    (first | go_keep | exact ⟨g0, g1, g2, g3⟩)
    ((go_at_call 37; refine (CM.out _).mono ?_; rintro e w2 ⟨rfl, hb2⟩; have hbw : Below w.heap.size w w2 := ((Below.refl _ _).drew).trans (hb2.mono (Nat.le_refl _)); have g0 := (hbw.cell (p := ⟨n, 0, none⟩) hn).trans hc; have g1 := (hbw.cell (p := ⟨k, 0, none⟩) hk).trans hd; have g2 := (hbw.cell (p := ⟨b, o + i, none⟩) hb).trans h1; have g3 := (hbw.cell (p := ⟨b2, o2 + j, none⟩) (by assumption)).trans h2))
  all_goals
    go_wp2
    go_ret
    exact ⟨rfl, hbw⟩
theorem eg_comps2 : ∀ args w, (callFunc 36 args).run Tryz.prog w = .ok (.enter 36 args) w := enters_of Tryz.func36 (by kernel_rfl) rfl

set_option maxHeartbeats 800000 in
theorem matchComps_any (v u : Value) (xs ys : List ByteArray) (w : World) (h : Strs w w.heap.size v xs) (g : Strs w w.heap.size u ys) (hx : ∀ x ∈ xs, x.size ≤ 2147483648) (hy : ∀ x ∈ ys, x.size ≤ 2147483648) (hxl : xs.length ≤ 2147483648) (hyl : ys.length ≤ 2147483648) :
    Calls Tryz.prog 19 #[v, u] w fun e w' => e = .returned (.bool (lmC xs ys)) ∧ Below w.heap.size w w' := by
  have B0 : Below w.heap.size w ((w.alloc (.cells #[v] 26)).alloc (.cells #[u] 26)) := ((Below.refl _ _).alloc (Nat.le_refl _) _).alloc (by simp) _
  have G0 := (One.new w v 26).alloc (.cells #[u] 26)
  have G1 := (One.new (w.alloc (.cells #[v] 26)) u 26).at_ (n' := w.heap.size + 1) (by simp)
  have hS : ∀ W, Below ((w.alloc (.cells #[v] 26)).alloc (.cells #[u] 26)).heap.size ((w.alloc (.cells #[v] 26)).alloc (.cells #[u] 26)) W → Below w.heap.size w W := fun W hb => B0.trans (hb.mono (by simp; omega))
  have H := matchAll_any starC mat xs ys 35 36 ⟨w.heap.size, 0, none⟩ ⟨w.heap.size + 1, 0, none⟩ eg_comps1 eg_comps2
    ((w.alloc (.cells #[v] 26)).alloc (.cells #[u] 26)) hxl hyl
    (fun W i hi hb => comps1_any v xs i _ W hi ((G0.below hb G0.lt).c0) ((h.below (hS W hb)).more (hS W hb).size))
    (fun W i j hi hj hb => comps2_any v u xs ys i j _ _ W hi hj ((G0.below hb G0.lt).c0) ((G1.below hb G1.lt).c0) ((h.below (hS W hb)).more (hS W hb).size) ((g.below (hS W hb)).more (hS W hb).size) hx hy)
  have HH := Lib.hid H
  obtain ⟨a, c, rfl, _⟩ := h
  obtain ⟨a2, c2, rfl, _⟩ := g
  clear H G0 G1 hS hx hy
  go_enter Tryz.func19, Tryz.ntmps19
  go_wp2_with fail
  refine HH.out.mono ?_
  rintro e w' ⟨rfl, hb⟩
  go_wp2
  go_ret
  exact ⟨rfl, B0.trans (hb.mono (by simp; omega))⟩

end Go.Proofs.YtoeiaffkedkepaaGreatDoor

/- Plain facts on attribute lists: the order of names, the fault of a list, the place of a name, its value, setting a value. No program. -/
namespace Go.Proofs.YtoeiaffkedkepaaGreatDoor
open Go.RowKit

/-- Bytewise order of strings. -/
def ltS (a b : ByteArray) : Bool := Op.bytesLess a.toList b.toList
theorem ltS_iff {a b : ByteArray} : ltS a b = true ↔ a.data.toList < b.data.toList := by
  unfold ltS; rw [Proofs.bytesLess_eq, Lib.toList_data, Lib.toList_data]; simp
theorem ltS_not {a b : ByteArray} : ltS a b = false ↔ ¬ a.data.toList < b.data.toList := by
  rw [← ltS_iff]; simp
theorem bytes_ext {a b : ByteArray} (h : a.data.toList = b.data.toList) : a = b := by
  cases a with | mk d => cases b with | mk e => simp at h; rw [h]
theorem ltS_irrefl (a : ByteArray) : ltS a a = false := ltS_not.2 (List.lt_irrefl _)
theorem ltS_trans {a b c : ByteArray} (h1 : ltS a b = true) (h2 : ltS b c = true) : ltS a c = true := ltS_iff.2 (List.lt_trans (ltS_iff.1 h1) (ltS_iff.1 h2))
theorem ltS_asymm {a b : ByteArray} (h : ltS a b = true) : ltS b a = false := by
  cases h2 : ltS b a with
  | false => rfl
  | true => have := ltS_trans h h2; rw [ltS_irrefl] at this; cases this
theorem ltS_eq {a b : ByteArray} (h1 : ltS a b = false) (h2 : ltS b a = false) : a = b :=
  bytes_ext (List.le_antisymm (List.not_lt.1 (ltS_not.1 h2)) (List.not_lt.1 (ltS_not.1 h1)))
theorem ltS_ne {a b : ByteArray} (h : ltS a b = true) : a ≠ b := fun e => by subst e; rw [ltS_irrefl] at h; cases h
theorem ltS_of {a b : ByteArray} (h1 : ltS a b = false) (h2 : a ≠ b) : ltS b a = true := by
  cases h : ltS b a with
  | true => rfl
  | false => exact absurd (ltS_eq h1 h) h2
theorem ltS_trans' {a b c : ByteArray} (h1 : ltS b a = false) (h2 : ltS b c = true) : ltS a c = true := by
  cases h : ltS a b with
  | true => exact ltS_trans h h2
  | false => rw [ltS_eq h h1]; exact h2
theorem ltS_le {a b c : ByteArray} (h1 : ltS a b = true) (h2 : ltS c b = false) : ltS a c = true := by
  cases h : ltS b c with
  | true => exact ltS_trans h1 h
  | false => rw [ltS_eq h2 h]; exact h1
theorem toList_nil {v : ByteArray} : v.toList = [] ↔ v = ByteArray.empty := by
  constructor
  · intro h; apply bytes_ext; rw [← Lib.toList_data, h]; rfl
  · rintro rfl; rw [Lib.toList_data]; rfl
theorem toList_inj {a b : ByteArray} : a.toList = b.toList ↔ a = b :=
  ⟨fun h => bytes_ext (by rw [← Lib.toList_data, ← Lib.toList_data, h]), fun h => by rw [h]⟩
theorem beq_str (a b : ByteArray) : (a.toList == b.toList) = decide (a = b) := by
  rw [Bool.eq_iff_iff]; simp [toList_inj]
theorem isEmpty_str (v : ByteArray) : v.toList.isEmpty = decide (v = ByteArray.empty) := by
  rw [Bool.eq_iff_iff, List.isEmpty_iff, toList_nil]; simp
theorem ltS_empty (a : ByteArray) : ltS ByteArray.empty a = decide (a ≠ ByteArray.empty) := by
  rw [Bool.eq_iff_iff, decide_eq_true_iff, ltS_iff]
  constructor
  · intro h e; rw [e] at h; exact List.lt_irrefl _ h
  · intro h
    cases hl : a.data.toList with
    | nil => exact absurd (bytes_ext (by rw [hl]; rfl)) h
    | cons x r => exact List.nil_lt_cons x r

structure Attr where
  n : ByteArray
  v : ByteArray
abbrev A0 : Attr := ⟨ByteArray.empty, ByteArray.empty⟩
theorem Attr.eta (a : Attr) : a = ⟨a.n, a.v⟩ := rfl
def Attr.fits (a : Attr) : Prop := a.n.size ≤ maxLen ∧ a.v.size ≤ maxLen
theorem A0_fits : A0.fits := ⟨by unfold maxLen; simp, by unfold maxLen; simp⟩
theorem atD {xs : List Attr} {k : Nat} (h : k < xs.length) : xs.getD k A0 = xs[k] := by
  rw [List.getD_eq_getElem?_getD, List.getElem?_eq_getElem h]; rfl
theorem atD_mem {xs : List Attr} {k : Nat} (h : k < xs.length) : xs.getD k A0 ∈ xs := by rw [atD h]; exact List.getElem_mem h

/-- The code of an attribute that is set or removed. -/
def codeA (a : Attr) : Int := if vname a.n = true then (if 20 < a.v.size then 10 else 0) else 12
theorem codeA_ok {a : Attr} (h : codeA a = 0) : vname a.n = true ∧ a.v.size ≤ 20 := by
  unfold codeA at h
  split at h
  · rename_i h1
    split at h
    · cases h
    · exact ⟨h1, by omega⟩
  · cases h
/-- The name before number k. -/
def prevN (xs : List Attr) (k : Nat) : ByteArray := if k = 0 then ByteArray.empty else (xs.getD (k - 1) A0).n
/-- The code of number k of a list. -/
def codeL (xs : List Attr) (k : Nat) : Int :=
  if codeA (xs.getD k A0) = 0 then (if (xs.getD k A0).v = ByteArray.empty ∨ ltS (prevN xs k) (xs.getD k A0).n = false then 5 else 0) else codeA (xs.getD k A0)

/-- The first number from i on, m of them, at which f is not zero, with f there. -/
def firstNZ (f : Nat → Int) : Nat → Nat → Int × Int
  | 0, _ => (0, 0)
  | m + 1, i => if f i = 0 then firstNZ f m (i + 1) else (f i, i)
theorem firstNZ_hit (f : Nat → Int) : ∀ (m i k : Nat), k < m → f (i + k) ≠ 0 → (∀ j, j < k → f (i + j) = 0) → firstNZ f m i = (f (i + k), ((i + k : Nat) : Int))
  | 0, _, _, h, _, _ => absurd h (by simp)
  | m + 1, i, 0, _, hc, _ => by simp at hc ⊢; unfold firstNZ; rw [if_neg hc]
  | m + 1, i, k + 1, h, hc, hA => by
    have h0 := hA 0 (by omega)
    simp at h0
    unfold firstNZ
    have e1 : i + (k + 1) = i + 1 + k := by omega
    rw [e1] at hc ⊢
    rw [if_pos h0, firstNZ_hit f m (i + 1) k (by omega) hc (fun j hj => by have := hA (j + 1) (by omega); rwa [show i + (j + 1) = i + 1 + j by omega] at this)]
theorem firstNZ_miss (f : Nat → Int) : ∀ (m i : Nat), (∀ j, j < m → f (i + j) = 0) → firstNZ f m i = (0, 0)
  | 0, _, _ => rfl
  | m + 1, i, hA => by
    have h0 := hA 0 (by simp)
    simp at h0
    unfold firstNZ
    rw [if_pos h0, firstNZ_miss f m (i + 1) (fun j hj => by have := hA (j + 1) (by omega); rwa [show i + (j + 1) = i + 1 + j by omega] at this)]
theorem firstNZ_zero (f : Nat → Int) : ∀ (m i : Nat), (firstNZ f m i).1 = 0 → (∀ j, j < m → f (i + j) = 0)
  | 0, _, _, j, hj => absurd hj (by simp)
  | m + 1, i, h, j, hj => by
    unfold firstNZ at h
    split at h
    · rename_i h0
      cases j with
      | zero => simpa using h0
      | succ j => have := firstNZ_zero f m (i + 1) h j (by omega); rwa [show i + (j + 1) = i + 1 + j by omega]
    · rename_i h0; exact absurd h h0

/-- The fault of a list. -/
def valA (xs : List Attr) : Int × Int := if 6 < xs.length then (2, 0) else firstNZ (codeL xs) xs.length 0
theorem valA_many {xs : List Attr} (h : 6 < xs.length) : valA xs = (2, 0) := by unfold valA; rw [if_pos h]
theorem valA_hit {xs : List Attr} (h : ¬ 6 < xs.length) {k : Nat} (hk : k < xs.length) (hc : codeL xs k ≠ 0) (hA : ∀ j, j < k → codeL xs j = 0) : valA xs = (codeL xs k, (k : Int)) := by
  unfold valA; rw [if_neg h]
  have := firstNZ_hit (codeL xs) xs.length 0 k hk (by simpa using hc) (by simpa using hA)
  simpa using this
theorem valA_miss {xs : List Attr} (h : ¬ 6 < xs.length) (hA : ∀ j, j < xs.length → codeL xs j = 0) : valA xs = (0, 0) := by
  unfold valA; rw [if_neg h]; exact firstNZ_miss _ _ _ (by simpa using hA)

/-- A valid list. -/
structure Good (xs : List Attr) : Prop where
  len : xs.length ≤ 6
  code : ∀ a ∈ xs, codeA a = 0
  ne : ∀ a ∈ xs, a.v ≠ ByteArray.empty
  srt : xs.Pairwise (fun a b => ltS a.n b.n = true)
theorem codeL_zero {xs : List Attr} {k : Nat} (h : codeL xs k = 0) : codeA (xs.getD k A0) = 0 ∧ (xs.getD k A0).v ≠ ByteArray.empty ∧ ltS (prevN xs k) (xs.getD k A0).n = true := by
  unfold codeL at h
  split at h
  · rename_i h1
    split at h
    · cases h
    · rename_i h2
      simp at h2
      exact ⟨h1, h2.1, h2.2⟩
  · rename_i h1; exact absurd h h1
theorem srt_of {xs : List Attr} (h : ∀ k, k + 1 < xs.length → ltS (xs.getD k A0).n (xs.getD (k + 1) A0).n = true) : xs.Pairwise (fun a b => ltS a.n b.n = true) := by
  rw [List.pairwise_iff_getElem]
  intro i j hi hj hij
  rw [← atD hi, ← atD hj]
  clear hi
  obtain ⟨d, rfl⟩ : ∃ d, j = i + 1 + d := ⟨j - i - 1, by omega⟩
  clear hij
  induction d with
  | zero => exact h i hj
  | succ d ih => exact ltS_trans (ih (by omega)) (h (i + 1 + d) hj)
theorem good_of {xs : List Attr} (h : (valA xs).1 = 0) : Good xs := by
  have h6 : ¬ 6 < xs.length := fun h' => by rw [valA_many h'] at h; cases h
  unfold valA at h
  rw [if_neg h6] at h
  have hz := firstNZ_zero _ _ _ h
  simp only [Nat.zero_add] at hz
  refine ⟨by omega, fun a ha => ?_, fun a ha => ?_, srt_of fun k hk => ?_⟩
  · obtain ⟨j, hj, rfl⟩ := List.mem_iff_getElem.1 ha
    rw [← atD hj]; exact (codeL_zero (hz j hj)).1
  · obtain ⟨j, hj, rfl⟩ := List.mem_iff_getElem.1 ha
    rw [← atD hj]; exact (codeL_zero (hz j hj)).2.1
  · have := (codeL_zero (hz (k + 1) hk)).2.2
    unfold prevN at this
    rwa [if_neg (by simp), Nat.add_sub_cancel] at this
theorem Good.name {xs : List Attr} (h : Good xs) {a : Attr} (ha : a ∈ xs) : vname a.n = true := (codeA_ok (h.code a ha)).1
theorem Good.val {xs : List Attr} (h : Good xs) : valA xs = (0, 0) := by
  refine valA_miss (by have := h.len; omega) fun j hj => ?_
  unfold codeL
  have hm := atD_mem hj
  rw [if_pos (h.code _ hm), if_neg]
  rintro (h1 | h1)
  · exact h.ne _ hm h1
  · unfold prevN at h1
    split at h1
    · rw [ltS_empty, decide_eq_false_iff_not] at h1
      apply h1
      intro e
      have hv := h.name hm
      rw [e] at hv
      unfold vname at hv
      rw [Bool.and_eq_true] at hv
      have := (vshape_iff.1 hv.1).1
      simp at this
    · have := List.pairwise_iff_getElem.1 h.srt (j - 1) j (by omega) hj (by omega)
      rw [← atD, ← atD, h1] at this
      cases this
theorem good_nil : Good [] := ⟨by simp, by simp, by simp, by simp⟩

/-- The value of a name, empty if it is absent. -/
def getA (xs : List Attr) (nm : ByteArray) : ByteArray := match xs.find? (fun a => decide (a.n = nm)) with
  | some a => a.v
  | none => ByteArray.empty
theorem getA_hit {xs : List Attr} {nm : ByteArray} {k : Nat} (hk : k < xs.length) (he : (xs.getD k A0).n = nm) (hA : ∀ j, j < k → (xs.getD j A0).n ≠ nm) : getA xs nm = (xs.getD k A0).v := by
  unfold getA
  have : xs.find? (fun a => decide (a.n = nm)) = some (xs.getD k A0) := by
    rw [List.find?_eq_some_iff_getElem]
    refine ⟨by simpa using he, k, hk, (atD hk).symm, fun j hj => ?_⟩
    have := hA j hj
    rw [atD (by omega)] at this
    simpa using this
  rw [this]
theorem getA_miss {xs : List Attr} {nm : ByteArray} (hA : ∀ j, j < xs.length → (xs.getD j A0).n ≠ nm) : getA xs nm = ByteArray.empty := by
  unfold getA
  have : xs.find? (fun a => decide (a.n = nm)) = none := by
    rw [List.find?_eq_none]
    intro a ha
    obtain ⟨j, hj, rfl⟩ := List.mem_iff_getElem.1 ha
    have := hA j hj
    rw [atD hj] at this
    simpa using this
  rw [this]
theorem getA_nil (nm : ByteArray) : getA [] nm = ByteArray.empty := rfl
theorem getA_cons (a : Attr) (xs : List Attr) (nm : ByteArray) : getA (a :: xs) nm = if a.n = nm then a.v else getA xs nm := by
  unfold getA
  rw [List.find?_cons]
  by_cases h : a.n = nm <;> simp [h]

/-- How many names are less. -/
def lowB (xs : List Attr) (nm : ByteArray) : Nat := xs.countP (fun a => ltS a.n nm)
def fnd (xs : List Attr) (nm : ByteArray) : Bool := decide (lowB xs nm < xs.length ∧ (xs.getD (lowB xs nm) A0).n = nm)
theorem countP_split (p : Attr → Bool) : ∀ (l : List Attr) (i : Nat), i ≤ l.length → (∀ j, j < i → p (l.getD j A0) = true) → (∀ j, i ≤ j → j < l.length → p (l.getD j A0) = false) → l.countP p = i
  | [], i, hi, _, _ => by
    have : i = 0 := by simpa using hi
    simp [this]
  | a :: r, 0, _, _, h2 => by
    have ha : p a = false := by simpa using h2 0 (Nat.le_refl _) (by simp)
    have := countP_split p r 0 (Nat.zero_le _) (fun j hj => absurd hj (Nat.not_lt_zero _)) (fun j _ hj => by simpa using h2 (j + 1) (Nat.zero_le _) (by simpa using hj))
    simp [ha, this]
  | a :: r, i + 1, hi, h1, h2 => by
    have ha : p a = true := by simpa using h1 0 (Nat.succ_pos _)
    have := countP_split p r i (by simpa using hi) (fun j hj => by simpa using h1 (j + 1) (by omega)) (fun j hij hj => by simpa using h2 (j + 1) (by omega) (by simpa using hj))
    simp [ha, this]
theorem srt_at {xs : List Attr} (h : xs.Pairwise (fun a b => ltS a.n b.n = true)) {i j : Nat} (hij : i < j) (hj : j < xs.length) : ltS (xs.getD i A0).n (xs.getD j A0).n = true := by
  rw [atD (by omega), atD hj]
  exact List.pairwise_iff_getElem.1 h i j (by omega) hj hij
/-- What the binary search's loop knows when it stops. -/
theorem lowB_of {xs : List Attr} {nm : ByteArray} {i : Nat} (hi : i ≤ xs.length) (h1 : ∀ j, j < i → ltS (xs.getD j A0).n nm = true) (h2 : ∀ j, i ≤ j → j < xs.length → ltS (xs.getD j A0).n nm = false) : lowB xs nm = i :=
  countP_split _ xs i hi h1 h2
theorem lowB_le (xs : List Attr) (nm : ByteArray) : lowB xs nm ≤ xs.length := List.countP_le_length
theorem lowB_lo {xs : List Attr} (h : xs.Pairwise (fun a b => ltS a.n b.n = true)) (nm : ByteArray) : (∀ j, j < lowB xs nm → ltS (xs.getD j A0).n nm = true) ∧ (∀ j, lowB xs nm ≤ j → j < xs.length → ltS (xs.getD j A0).n nm = false) := by
  induction xs with
  | nil => exact ⟨fun j hj => by simp [lowB] at hj, fun j _ hj => by simp at hj⟩
  | cons a r ih =>
    rw [List.pairwise_cons] at h
    obtain ⟨i1, i2⟩ := ih h.2
    cases ha : ltS a.n nm with
    | true =>
      have e : lowB (a :: r) nm = lowB r nm + 1 := by unfold lowB; rw [List.countP_cons]; simp [ha]
      rw [e]
      refine ⟨fun j hj => ?_, fun j hj hl => ?_⟩
      · cases j with
        | zero => simpa using ha
        | succ j => simpa using i1 j (by omega)
      · cases j with
        | zero => omega
        | succ j => simpa using i2 j (by omega) (by simpa using hl)
    | false =>
      have hall : ∀ b ∈ r, ltS b.n nm = false := fun b hb => by
        cases hb2 : ltS b.n nm with
        | false => rfl
        | true => rw [ltS_trans (h.1 b hb) hb2] at ha; cases ha
      have e : lowB (a :: r) nm = 0 := by
        unfold lowB; rw [List.countP_cons, List.countP_eq_zero.2 (fun b hb => by rw [hall b hb]; simp)]; simp [ha]
      rw [e]
      refine ⟨fun j hj => by omega, fun j _ hl => ?_⟩
      cases j with
      | zero => simpa using ha
      | succ j => simpa using hall _ (atD_mem (by simpa using hl))
theorem fnd_iff {xs : List Attr} {nm : ByteArray} : fnd xs nm = true ↔ lowB xs nm < xs.length ∧ (xs.getD (lowB xs nm) A0).n = nm := by unfold fnd; simp
theorem get_fnd {xs : List Attr} (h : xs.Pairwise (fun a b => ltS a.n b.n = true)) {nm : ByteArray} (hf : fnd xs nm = true) : getA xs nm = (xs.getD (lowB xs nm) A0).v := by
  obtain ⟨h1, h2⟩ := fnd_iff.1 hf
  exact getA_hit h1 h2 fun j hj => ltS_ne ((lowB_lo h nm).1 j hj)
theorem get_nfnd {xs : List Attr} (h : xs.Pairwise (fun a b => ltS a.n b.n = true)) {nm : ByteArray} (hf : fnd xs nm = false) : getA xs nm = ByteArray.empty := by
  refine getA_miss fun j hj e => ?_
  obtain ⟨l1, l2⟩ := lowB_lo h nm
  have hlt : ¬ j < lowB xs nm := fun hlt => ltS_ne (l1 j hlt) e
  unfold fnd at hf
  rw [decide_eq_false_iff_not] at hf
  apply hf
  by_cases hj2 : j = lowB xs nm
  · subst hj2; exact ⟨hj, e⟩
  · exfalso
    have hs := srt_at h (i := lowB xs nm) (j := j) (by omega) hj
    rw [e] at hs
    rw [l2 _ (Nat.le_refl _) (by omega)] at hs
    cases hs

end Go.Proofs.YtoeiaffkedkepaaGreatDoor

/- areUsers at every slice of integers: each lies between 0 and 7. Conditions: the slice's cells lie in memory as they read. -/
namespace Go.Proofs.YtoeiaffkedkepaaGreatDoor
open Go.RowKit

/-- The slice value v reads as the integers zs, all of it below block B. -/
def Ints (w : World) (B : Nat) (v : Value) (zs : List Int) : Prop :=
  ∃ a c, v = .slice a zs.length c ∧ zs.length ≤ c ∧ zs.length ≤ 8796093022208 ∧
    (0 < zs.length → ∃ b o, a = some ⟨b, o, none⟩ ∧ b < B ∧ ∀ j, j < zs.length → w.cell? ⟨b, o + j, none⟩ = some (.int .i64 (zs.getD j 0)))
theorem Ints.below {w w' : World} {B : Nat} {v : Value} {zs : List Int} (h : Ints w B v zs) (hb : Below B w w') : Ints w' B v zs := by
  obtain ⟨a, c, hv, hc, hl, hx⟩ := h
  refine ⟨a, c, hv, hc, hl, fun h0 => ?_⟩
  obtain ⟨b, o, ha, hB, hj⟩ := hx h0
  exact ⟨b, o, ha, hB, fun j h => (hb.cell (p := ⟨b, o + j, none⟩) hB).trans (hj j h)⟩
theorem Ints.more {w : World} {B B' : Nat} {v : Value} {zs : List Int} (h : Ints w B v zs) (hB : B ≤ B') : Ints w B' v zs := by
  obtain ⟨a, c, hv, hc, hl, hx⟩ := h
  refine ⟨a, c, hv, hc, hl, fun h0 => ?_⟩
  obtain ⟨b, o, ha, hb, hj⟩ := hx h0
  exact ⟨b, o, ha, by omega, hj⟩
theorem ints_one (w : World) (n : Nat) (hn : n = w.heap.size) (z : Int) (t : TypeId) : Ints (w.alloc (.cells #[.int .i64 z] t)) (w.heap.size + 1) (.slice (some ⟨n, 0, none⟩) 1 1) [z] := by
  subst hn
  refine ⟨_, _, rfl, by simp, by simp, fun _ => ⟨_, _, rfl, by simp, ?_⟩⟩
  intro j hj
  match j, hj with
  | 0, _ => simp
theorem ints_two (w : World) (n : Nat) (hn : n = w.heap.size) (x y : Int) (t : TypeId) : Ints (w.alloc (.cells #[.int .i64 x, .int .i64 y] t)) (w.heap.size + 1) (.slice (some ⟨n, 0, none⟩) 2 2) [x, y] := by
  subst hn
  refine ⟨_, _, rfl, by simp, by simp, fun _ => ⟨_, _, rfl, by simp, ?_⟩⟩
  intro j hj
  match j, hj with
  | 0, _ => simp
  | 1, _ => simp

/-- The ID of a user. -/
def usr (z : Int) : Bool := decide (0 ≤ z ∧ z ≤ 7)
theorem usr_of {b : Bool} {z : Int} (h : b = true ↔ ¬ (0 ≤ z ∧ z ≤ 7)) : b = !usr z := by
  unfold usr; rw [Bool.eq_iff_iff, h, Bool.not_eq_true', decide_eq_false_iff_not]

set_option maxHeartbeats 400000 in
theorem users1_any (z : Int) (w : World) :
    Calls Tryz.prog 121 #[.int .i64 z] w fun e w' => e = .returned (.bool (!usr z)) ∧ w = w' := by
  go_enter Tryz.func121, Tryz.ntmps121
  go_wp2
  all_goals
    go_ret
    refine ⟨ret_bool (usr_of ?_), rfl⟩
    simp
    try omega

/-- The place of the first integer that is no user's ID, or -1. -/
def badU (zs : List Int) : Int := if zs.all usr then -1 else zs.findIdx fun z => !usr z
theorem badU_hit {zs : List Int} {k : Nat} (hk : k < zs.length) (hb : usr (zs.getD k 0) = false) (hA : ∀ j, j < k → usr (zs.getD j 0) = true) : (k : Int) = badU zs := by
  have e : ∀ j, (h : j < zs.length) → zs.getD j 0 = zs[j] := fun j h => by rw [List.getD_eq_getElem?_getD, List.getElem?_eq_getElem h]; rfl
  have hn : zs.all usr = false := by
    rw [Bool.eq_false_iff]; intro h
    have := List.all_eq_true.1 h _ (List.getElem_mem hk)
    rw [← e k hk, hb] at this; cases this
  have hf : zs.findIdx (fun z => !usr z) = k := by
    rw [List.findIdx_eq hk]
    refine ⟨by rw [← e k hk, hb]; rfl, fun j hj => ?_⟩
    rw [← e j (by omega), hA j hj]; rfl
  unfold badU; rw [hn, hf]; simp
theorem badU_miss {zs : List Int} (hA : ∀ j, j < zs.length → usr (zs.getD j 0) = true) : -1 = badU zs := by
  have : zs.all usr = true := by
    rw [List.all_eq_true]
    intro x hx
    obtain ⟨j, hj, rfl⟩ := List.mem_iff_getElem.1 hx
    have := hA j hj
    rwa [List.getD_eq_getElem?_getD, List.getElem?_eq_getElem hj] at this
  unfold badU; rw [if_pos this]
theorem badU_sign (zs : List Int) : decide (0 ≤ badU zs) = !zs.all usr := by
  unfold badU
  cases h : zs.all usr with
  | true => simp
  | false => simp
theorem eg_users1 : ∀ args w, (callFunc 121 args).run Tryz.prog w = .ok (.enter 121 args) w := enters_of Tryz.func121 (by kernel_rfl) rfl

set_option maxHeartbeats 400000 in
theorem idxInts_any (v : Value) (zs : List Int) (w : World) (B : Nat) (h : Ints w B v zs) :
    Calls Tryz.prog 127 #[v, .func (.func 121) #[] #[]] w fun e w' => e = .returned (.int .i64 (badU zs)) ∧ w = w' := by
  obtain ⟨a, c, rfl, hc, hl, hx⟩ := h
  have eg := eg_users1
  go_enter Tryz.func127, Tryz.ntmps127
  go_wp2
  go_loopg [5, 8] zs.length (fun gg _ s8 wr => ∃ kk : Nat, kk ≤ zs.length ∧ zs.length - kk ≤ gg ∧ s8 = .int .i64 kk ∧ wr = w ∧ Aside (∀ j, j < kk → usr (zs.getD j 0) = true))
  case atStart => exact ⟨0, Nat.zero_le _, by omega, rfl, rfl, fun j hj => absurd hj (Nat.not_lt_zero _)⟩
  case round =>
    obtain ⟨kk, hkk, hg, rfl, rfl, A⟩ := hrel
    by_cases hlt : kk < zs.length
    · have hltz : (kk : Int) < (zs.length : Int) := by omega
      obtain ⟨b, o, rfl, hb, hj⟩ := hx (by omega)
      have hcell : wr.cell? ⟨b, o + kk, none⟩ = some (.int .i64 (zs.getD kk 0)) := hj kk hlt
      clear hx hj
      generalize hy : zs.getD kk 0 = y at hcell
      have Y : Aside (zs.getD kk 0 = y) := hy
      clear hy
      have hcall := fun W => users1_any y W
      cases hq : usr y with
      | false =>
        rw [hq] at hcall
        have Q : Aside (usr y = false) := hq
        clear hq
        go_wp2_with (go_at_fn 121; refine (hcall _).mono ?_; rintro e w' ⟨rfl, rfl⟩)
        go_ret
        exact ⟨ret_int (badU_hit hlt (by rw [Y.out]; exact Q.out) A.out), rfl⟩
      | true =>
        rw [hq] at hcall
        have Q : Aside (usr y = true) := hq
        clear hq
        go_wp2_with (go_at_fn 121; refine (hcall _).mono ?_; rintro e w' ⟨rfl, rfl⟩)
        go_roundg (zs.length - (kk + 1))
        case measure => omega
        case rel =>
          refine ⟨kk + 1, by omega, by omega, by go_num, rfl, (show Aside _ from fun j hj => ?_)⟩
          by_cases e : j = kk
          · subst e
            rw [Y.out]; exact Q.out
          · exact A.out j (by omega)
    · have hltz : ¬ (kk : Int) < (zs.length : Int) := by omega
      have e : kk = zs.length := by omega
      have E : Aside (kk = zs.length) := e
      clear e
      go_wp2
      go_ret
      exact ⟨ret_int (badU_miss fun j hj => A.out j (by have := E.out; omega)), rfl⟩

set_option maxHeartbeats 400000 in
theorem hasInts_any (v : Value) (zs : List Int) (w : World) (B : Nat) (h : Ints w B v zs) :
    Calls Tryz.prog 120 #[v, .func (.func 121) #[] #[]] w fun e w' => e = .returned (.bool (!zs.all usr)) ∧ w = w' := by
  have hcon := idxInts_any v zs w B h
  have HS := Lib.hid (badU_sign zs)
  generalize badU zs = i at *
  go_enter Tryz.func120, Tryz.ntmps120
  go_wp2_with (go_at_call 127; refine hcon.mono ?_; rintro e w' ⟨rfl, rfl⟩)
  go_ret
  exact ⟨ret_bool HS.out, rfl⟩

set_option maxHeartbeats 400000 in
theorem areUsers_any (v : Value) (zs : List Int) (w : World) (B : Nat) (h : Ints w B v zs) :
    Calls Tryz.prog 105 #[v] w fun e w' => e = .returned (.bool (zs.all usr)) ∧ w = w' := by
  have hcon := hasInts_any v zs w B h
  go_enter Tryz.func105, Tryz.ntmps105
  go_wp2_with (go_at_call 120; refine hcon.mono ?_; rintro e w' ⟨rfl, rfl⟩)
  go_ret
  exact ⟨ret_bool (by simp), rfl⟩

end Go.Proofs.YtoeiaffkedkepaaGreatDoor

/- checkEntry at every entry. Conditions: the fields are in int64's range. -/
namespace Go.Proofs.YtoeiaffkedkepaaGreatDoor
open Go.RowKit

structure Ent where
  u : Int
  a : Int
  d : Int
def E0 : Ent := ⟨0, 0, 0⟩
def Ent.val (e : Ent) : Value := .agg #[.int .i64 e.u, .int .i64 e.a, .int .i64 e.d]
def i64 (n : Int) : Prop := -9223372036854775808 ≤ n ∧ n ≤ 9223372036854775807
def Ent.fits (e : Ent) : Prop := i64 e.u ∧ i64 e.a ∧ i64 e.d

/-- What checkEntry tests, in its order: the user, then the permissions. -/
def codeE (e : Ent) : Int :=
  if e.u ≠ -1 ∧ usr e.u = false then 3
  else if bits .andNot .i64 (bits .or .i64 e.a e.d) 15 ≠ 0 ∨ bits .and .i64 e.a e.d ≠ 0 ∨ bits .or .i64 e.a e.d = 0 then 5 else 0

theorem code_user {e : Ent} (h : e.u ≠ -1) (h2 : usr e.u = false) : 3 = codeE e := by unfold codeE; rw [if_pos ⟨h, h2⟩]
theorem code_perm {e : Ent} (h : e.u = -1 ∨ usr e.u = true) (x y z : Int) (hx : x = bits .andNot .i64 (bits .or .i64 e.a e.d) 15) (hy : y = bits .and .i64 e.a e.d) (hz : z = bits .or .i64 e.a e.d)
    (h2 : x ≠ 0 ∨ y ≠ 0 ∨ z = 0) : 5 = codeE e := by
  subst hx hy hz
  unfold codeE; rw [if_neg (fun k => by rcases h with h | h; exact k.1 h; rw [k.2] at h; cases h), if_pos h2]
theorem code_ok {e : Ent} (h : e.u = -1 ∨ usr e.u = true) (x y z : Int) (hx : x = bits .andNot .i64 (bits .or .i64 e.a e.d) 15) (hy : y = bits .and .i64 e.a e.d) (hz : z = bits .or .i64 e.a e.d)
    (h2 : ¬ (x ≠ 0 ∨ y ≠ 0 ∨ z = 0)) : 0 = codeE e := by
  subst hx hy hz
  unfold codeE; rw [if_neg (fun k => by rcases h with h | h; exact k.1 h; rw [k.2] at h; cases h), if_neg h2]

set_option maxHeartbeats 400000 in
theorem checkEntry_any (u a d : Int) (w : World) :
    Calls Tryz.prog 83 #[.agg #[.int .i64 u, .int .i64 a, .int .i64 d]] w fun e w' => e = .returned (.int .i64 (codeE ⟨u, a, d⟩)) ∧ Below w.heap.size w w' := by
  by_cases hu : u = -1
  · subst hu
    go_enter Tryz.func83, Tryz.ntmps83
    go_wp2
    all_goals
      go_ret
      refine ⟨ret_int ?_, (Below.refl _ _).alloc (Nat.le_refl _) _⟩
      first | exact code_perm (.inl rfl) _ _ _ rfl rfl rfl (by simp_all) | exact code_ok (.inl rfl) _ _ _ rfl rfl rfl (by simp_all)
  · have hu2 : (u == -1) = false := by simpa using hu
    have hu3 : (u != -1) = true := by simpa using hu
    have HU := Lib.hid hu
    clear hu
    have hcon := fun W B h => areUsers_any (.slice (some ⟨w.heap.size + 1, 0, none⟩) 1 1) [u] W B h
    have e1 : [u].all usr = usr u := by simp
    rw [e1] at hcon
    clear e1
    cases hq : usr u with
    | false =>
      rw [hq] at hcon
      have HQ := Lib.hid hq
      clear hq
      go_enter Tryz.func83, Tryz.ntmps83
      go_wp2_with fail
      refine (hcon _ (w.heap.size + 2) (by simpa using ints_one (w.alloc _) _ (by simp) u _)).mono ?_
      rintro e w' ⟨rfl, rfl⟩
      go_wp2
      go_ret
      exact ⟨ret_int (code_user HU.out HQ.out), ((Below.refl _ _).alloc (Nat.le_refl _) _).alloc (by simp) _⟩
    | true =>
      rw [hq] at hcon
      have HQ := Lib.hid hq
      clear hq
      go_enter Tryz.func83, Tryz.ntmps83
      go_wp2_with fail
      refine (hcon _ (w.heap.size + 2) (by simpa using ints_one (w.alloc _) _ (by simp) u _)).mono ?_
      rintro e w' ⟨rfl, rfl⟩
      go_wp2
      all_goals
        go_ret
        refine ⟨ret_int ?_, ((Below.refl _ _).alloc (Nat.le_refl _) _).alloc (by simp) _⟩
        first | exact code_perm (.inr HQ.out) _ _ _ rfl rfl rfl (by simp_all) | exact code_ok (.inr HQ.out) _ _ _ rfl rfl rfl (by simp_all)

end Go.Proofs.YtoeiaffkedkepaaGreatDoor

/- Validate at every access control list: too many entries, or the first bad entry's code and place. Conditions: the slice's cells lie in memory as they read. -/
namespace Go.Proofs.YtoeiaffkedkepaaGreatDoor
open Go.RowKit

/-- The slice value v reads as the entries xs, all of it below block B. -/
def Acls (w : World) (B : Nat) (v : Value) (xs : List Ent) : Prop :=
  ∃ a c, v = .slice a xs.length c ∧ xs.length ≤ c ∧ xs.length ≤ 5864062014805 ∧ (∀ e ∈ xs, e.fits) ∧
    (0 < xs.length → ∃ b o, a = some ⟨b, o, none⟩ ∧ b < B ∧ ∀ j, j < xs.length →
      w.cell? ⟨b, o + j * 3, none⟩ = some (.int .i64 (xs.getD j E0).u) ∧ w.cell? ⟨b, o + j * 3 + 1, none⟩ = some (.int .i64 (xs.getD j E0).a) ∧ w.cell? ⟨b, o + j * 3 + 2, none⟩ = some (.int .i64 (xs.getD j E0).d))
theorem Acls.keep {w w' : World} {B : Nat} {v : Value} {xs : List Ent} (h : Acls w B v xs) (hk : ∀ b o, b < B → w'.cell? ⟨b, o, none⟩ = w.cell? ⟨b, o, none⟩) : Acls w' B v xs := by
  obtain ⟨a, c, hv, hc, hl, hf, hx⟩ := h
  refine ⟨a, c, hv, hc, hl, hf, fun h0 => ?_⟩
  obtain ⟨b, o, ha, hB, hj⟩ := hx h0
  refine ⟨b, o, ha, hB, fun j h => ?_⟩
  rw [hk _ _ hB, hk _ _ hB, hk _ _ hB]
  exact hj j h
theorem Acls.below {w w' : World} {B : Nat} {v : Value} {xs : List Ent} (h : Acls w B v xs) (hb : Below B w w') : Acls w' B v xs :=
  h.keep fun b o hB => hb.cell (p := ⟨b, o, none⟩) hB
theorem Acls.more {w : World} {B B' : Nat} {v : Value} {xs : List Ent} (h : Acls w B v xs) (hB : B ≤ B') : Acls w B' v xs := by
  obtain ⟨a, c, hv, hc, hl, hf, hx⟩ := h
  refine ⟨a, c, hv, hc, hl, hf, fun h0 => ?_⟩
  obtain ⟨b, o, ha, hb, hj⟩ := hx h0
  exact ⟨b, o, ha, by omega, hj⟩
theorem Acls.alloc {w : World} {B : Nat} {v : Value} {xs : List Ent} (h : Acls w B v xs) (hB : B ≤ w.heap.size) (o : Obj) : Acls (w.alloc o) B v xs :=
  h.below ((Below.refl B w).alloc hB o)
theorem entD {xs : List Ent} {k : Nat} (h : k < xs.length) : xs.getD k E0 = xs[k] := by
  rw [List.getD_eq_getElem?_getD, List.getElem?_eq_getElem h]; rfl
theorem Acls.none_ (w : World) (B : Nat) : Acls w B (.slice none 0 0) [] :=
  ⟨none, 0, rfl, by simp, by simp, by simp, fun h => absurd h (by simp)⟩
theorem acls_one (w : World) (n : Nat) (hn : n = w.heap.size) (e : Ent) (hf : e.fits) (t : TypeId) : Acls (w.alloc (.cells #[.int .i64 e.u, .int .i64 e.a, .int .i64 e.d] t)) (w.heap.size + 1) (.slice (some ⟨n, 0, none⟩) 1 1) [e] := by
  subst hn
  refine ⟨_, _, rfl, by simp, by simp, by simpa using hf, fun _ => ⟨_, _, rfl, by simp, ?_⟩⟩
  intro j hj
  match j, hj with
  | 0, _ => simp

/-- The first fault of the entries from number i on. -/
def scanF : List Ent → Nat → Int × Int
  | [], _ => (0, 0)
  | e :: l, i => if codeE e = 0 then scanF l (i + 1) else (codeE e, i)
theorem scan_hit : ∀ (l : List Ent) (i k : Nat), k < l.length → codeE (l.getD k E0) ≠ 0 → (∀ j, j < k → codeE (l.getD j E0) = 0) → scanF l i = (codeE (l.getD k E0), ((i + k : Nat) : Int))
  | [], _, _, h, _, _ => absurd h (by simp)
  | e :: l, i, 0, _, hc, _ => by simp at hc ⊢; unfold scanF; rw [if_neg hc]
  | e :: l, i, k + 1, h, hc, hA => by
    have h0 := hA 0 (by omega)
    simp at h0
    unfold scanF
    rw [if_pos h0, scan_hit l (i + 1) k (by simpa using h) (by simpa using hc) (fun j hj => by simpa using hA (j + 1) (by omega))]
    simp; omega
theorem scan_miss : ∀ (l : List Ent) (i : Nat), (∀ j, j < l.length → codeE (l.getD j E0) = 0) → scanF l i = (0, 0)
  | [], _, _ => rfl
  | e :: l, i, hA => by
    have h0 := hA 0 (by simp)
    simp at h0
    unfold scanF
    rw [if_pos h0, scan_miss l (i + 1) (fun j hj => by simpa using hA (j + 1) (by simpa using hj))]
/-- The fault of a list. -/
def valF (xs : List Ent) : Int × Int := if 6 < xs.length then (2, 0) else scanF xs 0
def valV (xs : List Ent) : Value := faultV (valF xs).1 (valF xs).2
theorem valV_many {xs : List Ent} (h : 6 < xs.length) : faultV 2 0 = valV xs := by unfold valV valF; rw [if_pos h]
theorem valV_hit {xs : List Ent} (h : ¬ 6 < xs.length) {k : Nat} {c : Int} (hk : k < xs.length) (hc : codeE (xs.getD k E0) = c) (hn : ¬ c = 0) (hA : ∀ j, j < k → codeE (xs.getD j E0) = 0) : faultV c k = valV xs := by
  unfold valV valF; rw [if_neg h, scan_hit xs 0 k hk (by rw [hc]; exact hn) hA, hc]; simp
theorem valV_miss {xs : List Ent} (h : ¬ 6 < xs.length) (hA : ∀ j, j < xs.length → codeE (xs.getD j E0) = 0) : faultV 0 0 = valV xs := by
  unfold valV valF; rw [if_neg h, scan_miss xs 0 hA]

set_option maxHeartbeats 400000 in
theorem validate_any (v : Value) (xs : List Ent) (w : World) (h : Acls w w.heap.size v xs) :
    Calls Tryz.prog 63 #[v] w fun e w' => e = .returned (valV xs) ∧ Below w.heap.size w w' := by
  obtain ⟨a, c, rfl, hc, hl, hf, hx⟩ := h
  by_cases h6 : 6 < xs.length
  · have hm := Lib.hid (valV_many h6)
    clear hx hf
    go_enter Tryz.func63, Tryz.ntmps63
    go_wp2
    exact bodyPost_ret (v := faultV 2 0) (by simp [results, Tryz.results63, faultV, go_sem]) rfl ⟨by rw [hm.out], (Below.refl _ _).alloc (Nat.le_refl _) _⟩
  · have H6 := Lib.hid h6
    have h62 : xs.length ≤ 6 := by omega
    have h6b : decide ((6 : Int) < (xs.length : Int)) = false := by simp; omega
    clear hf h6
    go_enter Tryz.func63, Tryz.ntmps63
    go_wp2
    go_loopg [3, 4, 5, 12] xs.length (fun gg _ _ _ s12 wr => ∃ kk : Nat, kk ≤ xs.length ∧ xs.length - kk ≤ gg ∧ s12 = .int .i64 kk ∧ Aside (Below w.heap.size w wr) ∧ Aside (FBox wr w.heap.size 0 0) ∧ Aside (∀ j, j < kk → codeE (xs.getD j E0) = 0))
    case atStart => exact ⟨0, Nat.zero_le _, by omega, rfl, (Below.refl _ _).alloc (Nat.le_refl _) _, FBox.new w 0 0 _, fun j hj => absurd hj (Nat.not_lt_zero _)⟩
    case round =>
      obtain ⟨kk, hkk, hg, rfl, BW, FB, A⟩ := hrel
      by_cases hlt : kk < xs.length
      · have hltz : (kk : Int) < (xs.length : Int) := by omega
        obtain ⟨b, o, rfl, hb, hj⟩ := hx (by omega)
        have g0 : wr.cell? ⟨b, o + kk * 3, none⟩ = some (.int .i64 (xs.getD kk E0).u) := (BW.out.cell (p := ⟨b, _, none⟩) hb).trans (hj kk hlt).1
        have g1 : wr.cell? ⟨b, o + kk * 3 + 1, none⟩ = some (.int .i64 (xs.getD kk E0).a) := (BW.out.cell (p := ⟨b, _, none⟩) hb).trans (hj kk hlt).2.1
        have g2 : wr.cell? ⟨b, o + kk * 3 + 2, none⟩ = some (.int .i64 (xs.getD kk E0).d) := (BW.out.cell (p := ⟨b, _, none⟩) hb).trans (hj kk hlt).2.2
        clear hx hj
        generalize hy : xs.getD kk E0 = y at g0 g1 g2
        obtain ⟨u, a, d⟩ := y
        have Y : Aside (xs.getD kk E0 = ⟨u, a, d⟩) := hy
        clear hy
        have hcall := fun W => checkEntry_any u a d W
        generalize hq : codeE ⟨u, a, d⟩ = q at hcall
        have Q := Lib.hid hq
        clear hq
        go_wp2_with fail
        refine (hcall _).mono ?_
        rintro e w' ⟨rfl, hb'⟩
        have hB1 : Below w.heap.size w w' := (BW.out.alloc BW.out.size _).trans (hb'.mono (by have := BW.out.size; simp; omega))
        have FB1 := Lib.hid ((FB.out.alloc _).below hb' (by have := FB.out.lt; simp; omega))
        clear hb'
        by_cases hq0 : q = 0
        · subst hq0
          go_wp2
          go_roundg (xs.length - (kk + 1))
          case measure => omega
          case rel =>
            refine ⟨kk + 1, by omega, by omega, by go_num, hB1, FB1.out, (show Aside _ from fun j hj => ?_)⟩
            by_cases e : j = kk
            · subst e
              rw [Y.out]; exact Q.out
            · exact A.out j (by omega)
        · have hq1 : (q == 0) = false := by simpa using hq0
          have hq2 : (q != 0) = true := by simpa using hq0
          have HQ := Lib.hid hq0
          clear hq0
          obtain ⟨l1, a0, a1, k0, k1⟩ := FB1.out
          go_wp2
          exact bodyPost_ret (v := faultV q kk) (by simp [results, Tryz.results63, faultV, go_sem, a0, a1]) rfl ⟨by rw [valV_hit H6.out hlt (by rw [Y.out]; exact Q.out) HQ.out A.out], (hB1.setCell (by simp) _).setCell (by simp) _⟩
      · have hltz : ¬ (kk : Int) < (xs.length : Int) := by omega
        have e : kk = xs.length := by omega
        have E : Aside (kk = xs.length) := e
        clear e hx
        obtain ⟨l1, a0, a1, k0, k1⟩ := FB.out
        go_wp2
        exact bodyPost_ret (v := faultV 0 0) (by simp [results, Tryz.results63, faultV, go_sem, a0, a1]) rfl ⟨by rw [valV_miss H6.out fun j hj => A.out j (by have := E.out; omega)], (BW.out.setCell (by simp) _).setCell (by simp) _⟩

end Go.Proofs.YtoeiaffkedkepaaGreatDoor
