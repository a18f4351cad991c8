/- What a law of package memfs or of its neighbours needs, at the translation of this seat.
   Condition: as each theorem states; this text: MfRaw1. -/
import Derived.Test.YtmbbmmnpkdfecaaGreatDoorMrA
import Derived.Test.YtmbbmmnpkdfecaaGreatDoorMb34

set_option linter.all false

/- memfs.Apply at a read of user 0, and what the three reads of the law MemfsReadAfterWrite give. Conditions: the tree lies in memory as it reads. -/

set_option linter.all false
namespace Go.Proofs.YtmbbmmnpkdfecaaGreatDoor
open Go.RowKit

set_option maxHeartbeats 1600000 in
theorem isEmptyNil_any (w : World) :
    Calls Tryz.prog 15 #[.agg #[.int .i64 0, .slice none 0 0, .slice none 0 0, .int .i64 0, .int .i64 0, .int .i64 0, .int .i64 0, .int .i64 0, .int .i64 0]] w fun e w' => e = .returned (.bool true) ∧ Below w.heap.size w w' := by
  have C := Lib.hid (fun W => repliesSame_any Rp0 (.slice none 0 0) (.slice none 0 0) (.slice none 0 0) (.slice none 0 0) W W.heap.size W.heap.size (Nat.le_refl _) (Nat.le_refl _) (Byts.none_ _ _) (Byts.none_ _ _) (Strs.none_ _ _) (Strs.none_ _ _))
  unfold rpV at C
  simp only at C
  go_enter Tryz.func15, Tryz.ntmps15
  go_wp2_with fail
  refine (C.out _).mono ?_
  rintro e z ⟨rfl, hz⟩
  go_wp2
  go_ret
  exact ⟨rfl, ((Below.refl _ _).alloc (Nat.le_refl _) _).trans (hz.mono (by simp))⟩

/-- The request, made by user 0. -/
def rqZ (r : Rq) : Rq := ⟨r.k, 0, r.p, r.t, r.off, r.sz, r.d, r.ac, r.a⟩
theorem RqS.zero {w : World} {B : Nat} {vd va : Value} {r : Rq} (h : RqS w B vd va r) : RqS w B vd va (rqZ r) := ⟨h.d, h.ac, h.k, (by show i64 (0 : Int); unfold i64; decide), h.off, h.sz, h.p, h.t, h.a⟩

theorem applyRead_any (a : Option Addr) (c : Nat) (t : FT) (p : ByteArray) (n : Nat) (off sz : Int) (w : World) (gm : GM w) (h : FNods w w.heap.size a c t) (hv : (valT (tr t)).1 = 0) (hp : pathB p = true) (hps : p.size ≤ maxLen) (o0 : 0 ≤ off) (o1 : off ≤ 1000000) (z0 : 0 ≤ sz) (z1 : sz ≤ 1000000) (hr : reachF t 0 p 2 2 = ((n : Int), 0)) :
    Calls Tryz.prog 12 #[.agg #[.slice a t.length c], .agg #[.int .i64 3, .int .i64 0, .string p, .string ByteArray.empty, .int .i64 off, .int .i64 sz, .slice none 0 0, .slice none 0 0, .string ByteArray.empty, .string ByteArray.empty]] w fun e w' => Below w.heap.size w w' ∧ ∃ g cap da dc na nc, e = .returned (.tuple #[.agg #[.slice (some ⟨g, 0, none⟩) t.length cap], .agg #[.int .i64 0, .slice da (readD (ino t n).d off sz).length dc, .slice na 0 nc, .int .i64 0, .int .i64 0, .int .i64 0, .int .i64 0, .int .i64 0, .int .i64 0], .agg #[.int .i64 0, .int .i64 0]])
      ∧ Byts w' w'.heap.size (.slice da (readD (ino t n).d off sz).length dc) (readD (ino t n).d off sz) := by
  have hq := rdq_ok hp o0 o1 z0 z1
  refine (applyOk_any a c t (rdq p off sz) (.slice none 0 0) (.slice none 0 0) w gm h ⟨Byts.none_ _ _, Acls.none_ _ _, (by show i64 (3 : Int); unfold i64; decide), (by show i64 (0 : Int); unfold i64; decide), (by show i64 off; unfold i64; omega), (by show i64 sz; unfold i64; omega), hps, (by show ByteArray.empty.size ≤ maxLen; decide), ⟨(by show ByteArray.empty.size ≤ maxLen; decide), (by show ByteArray.empty.size ≤ maxLen; decide)⟩⟩ hv hq).mono ?_
  rintro e w' ⟨hb, g, cap, sl, vd, vn, rfl, ho, hs⟩
  rw [read_at hv hr off sz] at hs ⊢
  obtain ⟨da, dc, rfl, _⟩ := id hs.d
  obtain ⟨na, nc, rfl, _⟩ := id hs.ns
  exact ⟨hb, g, cap, da, dc, na, nc, rfl, hs.d⟩

theorem readD_all (d : List UInt8) : readD d 0 1000 = d.take 1000 := by
  unfold readD
  show (d.take (min (0 + 1000) d.length)).drop (min 0 d.length) = _
  rw [Nat.zero_min, List.drop_zero, Nat.zero_add]
  by_cases h : 1000 ≤ d.length
  · rw [Nat.min_eq_left h]
  · rw [Nat.min_eq_right (by omega), List.take_length, List.take_of_length_le (by omega)]
theorem now_facts {old : List UInt8} {r : Rq} {m : Nat} (h : r.d.length = 0 ∨ r.off.toNat + r.d.length ≤ m) (hm : m ≤ 200) (h0 : 0 ≤ r.off) : (readD (dataF old r m) 0 1000).length = m ∧
    ∀ k, k < m → ¬ (r.off ≤ (k : Int) ∧ (k : Int) < r.off + (r.d.length : Int)) → (readD (dataF old r m) 0 1000).getD k 0 = (readD old 0 1000).getD k 0 := by
  obtain ⟨hl, hg⟩ := data_facts (old := old) h
  rw [readD_all, readD_all]
  have e1 : (dataF old r m).take 1000 = dataF old r m := List.take_of_length_le (by omega)
  rw [e1]
  refine ⟨hl, fun k hk hn => ?_⟩
  rw [hg k hk, if_neg (by omega)]
  rw [List.getD_eq_getElem?_getD, List.getD_eq_getElem?_getD, List.getElem?_take_of_lt (by omega)]
end Go.Proofs.YtmbbmmnpkdfecaaGreatDoor
