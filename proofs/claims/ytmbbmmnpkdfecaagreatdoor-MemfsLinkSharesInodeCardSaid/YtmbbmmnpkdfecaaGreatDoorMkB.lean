/- What a law of package memfs or of its neighbours needs, at the translation of this seat.
   Condition: as each theorem states; this text: MfLnk1. -/
import Derived.Test.YtmbbmmnpkdfecaaGreatDoorMkA

set_option linter.all false

/- memfs.Apply at a valid tree and request, with the results written out. Conditions: the tree and the request lie in memory as they read. -/

set_option linter.all false
namespace Go.Proofs.YtmbbmmnpkdfecaaGreatDoor
open Go.RowKit

theorem applyV_any (a : Option Addr) (c : Nat) (t : FT) (r : Rq) (vd va : Value) (w : World) (gm : GM w) (h : FNods w w.heap.size a c t) (hr : RqS w w.heap.size vd va r) (hv : (valT (tr t)).1 = 0) (hq : rqC r = 0) :
    Calls Tryz.prog 12 #[.agg #[.slice a t.length c], rqV r vd va] w fun e w' => Below w.heap.size w w' ∧ ∃ g cap da dc na nc, e = .returned (.tuple #[.agg #[.slice (some ⟨g, 0, none⟩) (applyF t r).1.length cap], .agg #[.int .i64 (applyF t r).2.c, .slice da (applyF t r).2.d.length dc, .slice na (applyF t r).2.ns.length nc, .int .i64 (applyF t r).2.s.i, .int .i64 (applyF t r).2.s.k, .int .i64 (applyF t r).2.s.o, .int .i64 (applyF t r).2.s.z, .int .i64 (applyF t r).2.s.l, .int .i64 (applyF t r).2.s.v], .agg #[.int .i64 0, .int .i64 0]])
      ∧ FNods w' w'.heap.size (some ⟨g, 0, none⟩) cap (applyF t r).1 := by
  refine (applyOk_any a c t r vd va w gm h hr hv hq).mono ?_
  rintro e w' ⟨hb, g, cap, sl, v1, v2, rfl, ho, hs⟩
  obtain ⟨da, dc, rfl, _⟩ := id hs.d
  obtain ⟨na, nc, rfl, _⟩ := id hs.ns
  exact ⟨hb, g, cap, da, dc, na, nc, rfl, ho.fnods⟩
theorem RqS.wbq {w : World} {p : ByteArray} {b : List UInt8} {vb : Value} (hb : Byts w w.heap.size vb b) (hp : p.size ≤ maxLen) : RqS w w.heap.size vb (.slice none 0 0) (Go.Proofs.YtmbbmmnpkdfecaaGreatDoor.wbq p b) :=
  ⟨hb, Acls.none_ _ _, (by show i64 (4 : Int); unfold i64; decide), (by show i64 (0 : Int); unfold i64; decide), (by show i64 (0 : Int); unfold i64; decide), (by show i64 (0 : Int); unfold i64; decide), hp, (by show ByteArray.empty.size ≤ maxLen; decide), ⟨(by show ByteArray.empty.size ≤ maxLen; decide), (by show ByteArray.empty.size ≤ maxLen; decide)⟩⟩
theorem RqS.rmq {w : World} {p : ByteArray} (hp : p.size ≤ maxLen) : RqS w w.heap.size (.slice none 0 0) (.slice none 0 0) (Go.Proofs.YtmbbmmnpkdfecaaGreatDoor.rmq p) :=
  ⟨Byts.none_ _ _, Acls.none_ _ _, (by show i64 (8 : Int); unfold i64; decide), (by show i64 (0 : Int); unfold i64; decide), (by show i64 (0 : Int); unfold i64; decide), (by show i64 (0 : Int); unfold i64; decide), hp, (by show ByteArray.empty.size ≤ maxLen; decide), ⟨(by show ByteArray.empty.size ≤ maxLen; decide), (by show ByteArray.empty.size ≤ maxLen; decide)⟩⟩
end Go.Proofs.YtmbbmmnpkdfecaaGreatDoor
