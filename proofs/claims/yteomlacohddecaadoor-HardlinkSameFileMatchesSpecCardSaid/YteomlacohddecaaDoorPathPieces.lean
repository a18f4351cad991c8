/- Splitting a string at slashes: the plain function, that the library's split is it, and that a scan from the left comes to it. Plain facts on lists of bytes. -/
import Derived.Test.YteomlacohddecaaDoorPathComps
import Derived.Lib.Split
import Derived.Lib.SplitLaws
import Derived.Lib.IndexLaws

set_option linter.all false
namespace Go.Proofs.YteomlacohddecaaDoor
open Go.RowKit

/-- The pieces between the slashes. -/
def pieces : List UInt8 → List (List UInt8)
  | [] => [[]]
  | c :: r => if c = 47 then [] :: pieces r else match pieces r with
    | [] => [[c]]
    | p :: ps => (c :: p) :: ps
theorem pieces_ne (s : List UInt8) : pieces s ≠ [] := by
  cases s with
  | nil => simp [pieces]
  | cons c r =>
    unfold pieces
    split
    · simp
    · split <;> simp
theorem pieces_form (s : List UInt8) : ∃ p ps, pieces s = p :: ps := by
  cases h : pieces s with
  | nil => exact absurd h (pieces_ne s)
  | cons p ps => exact ⟨p, ps, rfl⟩
theorem pieces_slash (r : List UInt8) : pieces (47 :: r) = [] :: pieces r := by rw [pieces, if_pos rfl]
theorem pieces_other {c : UInt8} {r : List UInt8} {p : List UInt8} {ps : List (List UInt8)} (hc : c ≠ 47) (h : pieces r = p :: ps) : pieces (c :: r) = (c :: p) :: ps := by
  rw [pieces, if_neg hc, h]
theorem splitK_pieces : ∀ s : List UInt8, Lib.splitK [47] 0 (s.count 47) s = pieces s
  | [] => rfl
  | c :: r => by
    by_cases hc : c = 47
    · subst hc
      rw [List.count_cons_self, pieces_slash]
      unfold Lib.splitK
      have hi : Lib.index (47 :: r) [47] = 0 := by rw [Lib.index_one]; simp [Lib.indexByte]
      rw [hi]
      simp only [Int.toNat_zero, List.take_zero, List.length_cons, List.length_nil, Nat.zero_add, List.drop_succ_cons, List.drop_zero]
      rw [if_neg (by decide), splitK_pieces r]
    · have ih := splitK_pieces r
      rw [List.count_cons_of_ne hc]
      obtain ⟨p, ps, hp⟩ := pieces_form r
      rw [pieces_other hc hp]
      rw [hp] at ih
      have hidx : Lib.index (c :: r) [47] = if Lib.index r [47] == -1 then -1 else Lib.index r [47] + 1 := by
        rw [Lib.index_one, Lib.index_one, Lib.indexByte, if_neg (by simpa using hc)]
      have hge : -1 ≤ Lib.index r [47] := Lib.index_ge _ _
      cases hk : r.count 47 with
      | zero =>
        rw [hk] at ih
        simp only [Lib.splitK] at ih ⊢
        rw [List.cons.injEq] at ih
        rw [← ih.1, ← ih.2]
      | succ k =>
        rw [hk] at ih
        unfold Lib.splitK at ih ⊢
        rw [hidx]
        by_cases hm : Lib.index r [47] = -1
        · rw [hm] at ih ⊢
          simp at ih ⊢
          exact ⟨ih.1, ih.2⟩
        · obtain ⟨i, hi⟩ : ∃ i : Nat, Lib.index r [47] = i := ⟨(Lib.index r [47]).toNat, by omega⟩
          rw [hi] at ih ⊢
          have h1 : ((i : Int) == -1) = false := by rw [beq_eq_false_iff_ne]; omega
          have h2 : ((i : Int) + 1 == -1) = false := by rw [beq_eq_false_iff_ne]; omega
          have h3 : ((i : Int) + 1).toNat = i + 1 := by omega
          simp only [h1, h2, h3, Bool.false_eq_true, if_false, Int.toNat_natCast, Nat.add_zero] at ih ⊢
          rw [List.cons.injEq] at ih
          rw [List.take_succ_cons, ih.1, show i + 1 + ([47] : List UInt8).length = (i + ([47] : List UInt8).length) + 1 from by simp, List.drop_succ_cons, ih.2]

def toB (l : List UInt8) : ByteArray := ⟨l.toArray⟩
theorem toB_data (l : List UInt8) : (toB l).data.toList = l := by simp [toB]
theorem toB_of (s : ByteArray) : toB s.data.toList = s := by
  apply ByteArray.ext; simp [toB]
theorem toB_inj {a b : List UInt8} (h : toB a = toB b) : a = b := by rw [← toB_data a, h, toB_data]
/-- The components of a text: its pieces as strings. -/
def comps (l : List UInt8) : List ByteArray := (pieces l).map toB
theorem splitB_comps (s : ByteArray) : Lib.splitB ⟨#[47]⟩ 0 (Lib.countB s ⟨#[47]⟩) s = comps s.data.toList := by
  have h := Lib.splitB_data ⟨#[47]⟩ 0 (Lib.countB s ⟨#[47]⟩) s
  have e : Lib.countB s ⟨#[47]⟩ = s.data.toList.count 47 := Lib.count_one 47 _
  rw [e] at h ⊢
  rw [show ((⟨#[47]⟩ : ByteArray).data.toList) = [47] from rfl, splitK_pieces] at h
  unfold comps
  rw [← h, List.map_map]
  have : (toB ∘ fun x : ByteArray => x.data.toList) = id := by funext x; exact toB_of x
  rw [this, List.map_id]
theorem comps_len (s : ByteArray) : (comps s.data.toList).length = Lib.countB s ⟨#[47]⟩ + 1 := by
  rw [← splitB_comps]; exact Lib.splitB_all _ (by decide) 0 _ s rfl
theorem pieces_len_le : ∀ (l : List UInt8), (pieces l).length ≤ l.length + 1
  | [] => by simp [pieces]
  | c :: r => by
    have := pieces_len_le r
    by_cases hc : c = 47
    · subst hc; rw [pieces_slash]; simp; omega
    · obtain ⟨p, ps, hp⟩ := pieces_form r
      rw [pieces_other hc hp]; rw [hp] at this; simp at *; omega
theorem comps_len_le (l : List UInt8) : (comps l).length ≤ l.length + 1 := by
  unfold comps; rw [List.length_map]; exact pieces_len_le l
theorem pieces_size : ∀ (l : List UInt8), ∀ p ∈ pieces l, p.length ≤ l.length
  | [], p, hp => by simp [pieces] at hp; subst hp; simp
  | c :: r, p, hp => by
    have ih := pieces_size r
    by_cases hc : c = 47
    · subst hc
      rw [pieces_slash] at hp
      rcases List.mem_cons.1 hp with rfl | hp
      · simp
      · have := ih p hp; simp; omega
    · obtain ⟨q, qs, hq⟩ := pieces_form r
      rw [pieces_other hc hq] at hp
      rw [hq] at ih
      rcases List.mem_cons.1 hp with rfl | hp
      · have := ih q (by simp); simp; omega
      · have := ih p (by simp [hp]); simp; omega
theorem comps_size {l : List UInt8} {x : ByteArray} (h : x ∈ comps l) : x.size ≤ l.length := by
  unfold comps at h
  obtain ⟨p, hp, rfl⟩ := List.mem_map.1 h
  have := pieces_size l p hp
  have e : (toB p).size = p.length := by simp [toB, ByteArray.size]
  omega

/-- What a scan from the left holds: done pieces, the piece under way, and the rest come to the whole. -/
def glue (now : List UInt8) : List (List UInt8) → List (List UInt8)
  | [] => [now]
  | p :: ps => (now ++ p) :: ps
theorem glue_nil (s : List UInt8) : glue [] (pieces s) = pieces s := by
  obtain ⟨p, ps, h⟩ := pieces_form s
  rw [h]; rfl
theorem glue_end (now : List UInt8) : glue now (pieces []) = [now] := by simp [pieces, glue]
theorem glue_slash (now r : List UInt8) : glue now (pieces (47 :: r)) = now :: pieces r := by
  rw [pieces_slash]; simp [glue]
theorem glue_other {c : UInt8} (now r : List UInt8) (hc : c ≠ 47) : glue now (pieces (c :: r)) = glue (now ++ [c]) (pieces r) := by
  obtain ⟨p, ps, h⟩ := pieces_form r
  rw [pieces_other hc h, h]; simp [glue]

end Go.Proofs.YteomlacohddecaaDoor
