/- walk at any start and any function that it visits with. Conditions: as follow_any. -/
import Derived.Test.YtndhhofidkaomaaFsWalk
import Derived.Laws.EntriesVeiled

set_option linter.all false
namespace Go.Proofs.Ytndhhofidkaomaa
open Go.RowKit

theorem One.put {w : World} {n : Nat} {v : Value} (h : One w n v) (u : Value) : One (w.setCell ⟨n, 0, none⟩ u) n u :=
  ⟨by simpa using h.lt, World.cell?_setCell_same _ _ _ h.c0, by simpa using h.f0⟩

set_option maxRecDepth 100000 in
set_option maxHeartbeats 2000000 in
theorem walk_any {σ : Type} {t : Tr} {s0 : Nat} {g : FuncId} {caps : Array Value} {S : Nat → Prop} {H0 : Nat} {Inv : World → σ → Prop} {step : σ → Vis → σ} (V : Visitor t s0 g caps S H0 Inv step)
    (h1 : Ok1 t) (fr : From t s0) {Bt : Nat} (hBt : Bt ≤ H0) (hSB : ∀ b, S b → Bt ≤ b) (a : Option Addr) (c : Nat) (W : World) (s : σ) (hn : Nods W Bt a c t) (hH : H0 ≤ W.heap.size) (hI : Inv W s) :
    Calls Try.prog 48 #[.agg #[.slice a t.length c], .int .i64 (s0 : Int), .func (.func g) #[] caps] W fun e W' => e = .returned (.tuple #[]) ∧ Inv W' ((visits t s0).foldl step s) ∧ Kept S none W W' := by
  have eg := V.eg
  have eg2 : ∀ args w, (callFunc 59 args).run Try.prog w = .ok (.enter 59 args) w := enters_of Try.func59 (by kernel_rfl) rfl
  have HF := Lib.hid (fun base pt pv pf (L : Lay S H0 pt pv pf Bt base) => follow_any V h1 fr L a c [] s0 .nil)
  have LL := Lib.hid (show Lay S H0 W.heap.size (W.heap.size + 1) (W.heap.size + 1 + 1) Bt (W.heap.size + 3) from ⟨hBt, hSB, V.low, hH, by omega, by omega, by omega, by omega, by omega⟩)
  have HN := Lib.hid hn
  clear hn
  go_enter Try.func48, Try.ntmps48
  go_wp2_with fail
  have B3 := (((Below.refl W.heap.size W).alloc (Nat.le_refl _) (.cells #[.slice a t.length c] 24)).alloc (by first | omega | (simp; done) | (simp; omega)) (.cells #[.func (.func g) #[] caps] 77)).alloc (by first | omega | (simp; done) | (simp; omega)) (.cells #[.func (.func 59) #[] #[.pointer (some ⟨W.heap.size + 1, 0, none⟩), .pointer (some ⟨W.heap.size, 0, none⟩), .pointer (some ⟨W.heap.size + 1 + 1, 0, none⟩)]] 77)
  refine (HF.out _ _ _ _ LL.out _ s (.slice none 0 0) ⟨((One.new W _ _).alloc _).alloc _, ((One.new (W.alloc _) _ _).alloc _).at_ (by simp), (One.new ((W.alloc _).alloc _) _ _).at_ (by simp), HN.out.below (B3.mono (by omega))⟩ (by simp) (V.keep _ _ _ hI (B3.mono hH)) (World.ownsRow_nil _ _ _ _)).mono ?_
  rintro e W' ⟨rfl, G⟩
  have K : Kept S none W W' := (Kept.of_below B3).trans G.kept
  have I := G.inv
  clear G B3
  go_wp2
  go_end0
  exact ⟨rfl, I, K⟩

end Go.Proofs.Ytndhhofidkaomaa
