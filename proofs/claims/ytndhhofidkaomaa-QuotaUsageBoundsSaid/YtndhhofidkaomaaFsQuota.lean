/- usage at any inode from which all walks end, and quotaCheck. Conditions: as each theorem states; the tree's cells lie in memory as they read. -/
import Derived.Test.YtndhhofidkaomaaFsUsage
import Derived.Test.YtndhhofidkaomaaFsRefs

set_option linter.all false
namespace Go.Proofs.Ytndhhofidkaomaa
open Go.RowKit

theorem eg_usage1 : ∀ args w, (callFunc 62 args).run Try.prog w = .ok (.enter 62 args) w := enters_of Try.func62 (by kernel_rfl) rfl
set_option maxRecDepth 100000 in
set_option maxHeartbeats 1600000 in
theorem usage_any (a : Option Addr) (c : Nat) (t : Tr) (n : Nat) (w : World) (h1 : Ok1 t) (fr : From t n) (h : Nods w w.heap.size a c t) :
    Calls Try.prog 54 #[.agg #[.slice a t.length c], .int .i64 (n : Int)] w fun e w' => e = .returned (.int .i64 (usg t (visits t n) : Nat)) ∧ Below w.heap.size w w' := by
  have H := Lib.hid h
  have H1 := Lib.hid h1
  have FR := Lib.hid fr
  have hmk := make_bools t.length h1.le
  clear h h1 fr
  have BB := Lib.hid (show Below w.heap.size w ((((w.alloc (.cells #[.slice a t.length c] 24)).alloc (.cells #[.int .i64 0] 3)).alloc (.cells (madeCells #[.bool false] t.length) 4)).alloc (.cells #[.slice (some ⟨w.heap.size + 1 + 1, 0, none⟩) t.length t.length] 51)) from
    ((((Below.refl _ _).alloc (Nat.le_refl _) _).alloc (by first | omega | (simp; done) | (simp; omega)) _).alloc (by first | omega | (simp; done) | (simp; omega)) _).alloc (by first | omega | (simp; done) | (simp; omega)) _)
  have MM := Lib.hid (show UInv ((((w.alloc (.cells #[.slice a t.length c] 24)).alloc (.cells #[.int .i64 0] 3)).alloc (.cells (madeCells #[.bool false] t.length) 4)).alloc (.cells #[.slice (some ⟨w.heap.size + 1 + 1, 0, none⟩) t.length t.length] 51)) t a c w.heap.size (w.heap.size + 1) (w.heap.size + 1 + 1) (w.heap.size + 1 + 1 + 1) w.heap.size [] from
    ⟨(((row_new ((w.alloc _).alloc _) t.length (.bool false) _).alloc _).at_ (by simp)).ext (fun _ _ => rfl), (One.new (((w.alloc _).alloc _).alloc _) _ _).at_ (by simp), by rw [usg_nil]; exact (((One.new (w.alloc _) (.int .i64 0) _).alloc _).alloc _).at_ (by simp), (((One.new w _ _).alloc _).alloc _).alloc _, H.out.below BB.out⟩)
  go_enter Try.func54, Try.ntmps54
  go_wp2_with fail
  have VV : Visitor t n 62 #[.pointer (some ⟨w.heap.size + 1 + 1 + 1, 0, none⟩), .pointer (some ⟨w.heap.size + 1, 0, none⟩), .pointer (some ⟨w.heap.size, 0, none⟩)] (fun b => b = w.heap.size + 1 + 1 ∨ b = w.heap.size + 1) (w.heap.size + 4) (fun W L => UInv W t a c w.heap.size (w.heap.size + 1) (w.heap.size + 1 + 1) (w.heap.size + 1 + 1 + 1) w.heap.size L) (fun L p => L ++ [p]) := by
    refine ⟨eg_usage1, fun b hb => by omega, fun W W' s hI hb => hI.below hb (by omega) (by omega) (by omega) (by omega) (by omega), fun W s xs m v hH hI hr hx hv => ?_⟩
    have hnr := H1.out.rch hr FR.out.lt FR.out.used
    exact usage1_any t H1.out a c w.heap.size _ _ _ w.heap.size (by omega) (by omega) (by omega) (by omega) W s xs m v (by omega) hI hnr.1
  have HW := walk_any VV H1.out FR.out (Bt := w.heap.size) (by omega) (fun b hb => by omega) a c _ [] (H.out.below BB.out) (by first | omega | (simp; done) | (simp; omega)) MM.out
  clear VV
  refine HW.mono ?_
  rintro e W2 ⟨rfl, I2, K2⟩
  rw [foldl_snoc, List.nil_append] at I2
  have t0 := I2.tot.c0
  have B2 := Lib.hid (BB.out.trans (K2.below (by first | omega | (simp; done) | (simp; omega)) (fun k hk => by omega) (by simp)))
  clear I2 K2 HW
  go_wp2
  go_ret
  exact ⟨rfl, B2.out⟩

set_option maxRecDepth 100000 in
set_option maxHeartbeats 800000 in
theorem quotaCheck1_any (a : Option Addr) (c : Nat) (t : Tr) (n pt : Nat) (w : World) (hd : Head t) (hp3 : Pass t 3) (h : Nods w w.heap.size a c t) (hp : One w pt (.slice a t.length c)) (hn : n < t.length) :
    Calls Try.prog 53 #[.int .i64 (n : Int), .pointer (some ⟨pt, 0, none⟩)] w fun e w' => e = .returned (.int .i64 (codeQ t n)) ∧ Below w.heap.size w w' := by
  have o1 := Pass.ok1 hd (hp3.mono (by omega))
  have nlz : (n : Int) < (t.length : Int) := by omega
  have nz : (0 : Int) ≤ (n : Int) := Int.natCast_nonneg _
  have HF := Lib.hid (show codeQ t n = if (nod t n).q ≠ 0 ∧ (nod t n).q < (usg t (visits t n) : Int) then 14 else 0 from rfl)
  have HU := Lib.hid (fun (hk : (nod t n).k ≠ 0) => usage_any a c t n w o1 (Pass.from_ hd hp3 hn hk).1 h)
  have HK := Lib.hid (show (nod t n).q ≠ 0 → (nod t n).k ≠ 0 from fun hq hk => hq ((o1.fine n).dir (by rw [hk]; decide)).2)
  obtain ⟨b, o, ve, vd, va, vx, rfl, hb, hc, hs⟩ := h.one hn
  have h6 := hc.c6
  have b0 := hp.c0
  have bl := hp.lt
  clear hc hs h hp o1 hp3 hd
  generalize codeQ t n = r at *
  generalize usg t (visits t n) = u at *
  generalize (nod t n).q = q at *
  by_cases hq : q = 0
  · subst hq
    rw [if_neg (by simp)] at HF
    go_enter Try.func53, Try.ntmps53
    go_wp2
    go_ret
    exact ⟨ret_int HF.out.symm, Below.refl _ _⟩
  · have hq1 : (q != 0) = true := by simpa using hq
    have HU2 := Lib.hid (HU.out (HK.out hq))
    clear HU HK
    by_cases hg : q < (u : Int)
    · rw [if_pos ⟨hq, hg⟩] at HF
      clear hq
      go_enter Try.func53, Try.ntmps53
      go_wp2_with fail
      refine HU2.out.mono ?_
      rintro e w2 ⟨rfl, b2⟩
      have B2 := Lib.hid b2
      clear b2
      go_wp2
      go_ret
      exact ⟨ret_int HF.out.symm, B2.out⟩
    · rw [if_neg (fun h => hg h.2)] at HF
      have hg2 : decide (q < (u : Int)) = false := by simpa using hg
      clear hq
      go_enter Try.func53, Try.ntmps53
      go_wp2_with fail
      refine HU2.out.mono ?_
      rintro e w2 ⟨rfl, b2⟩
      have B2 := Lib.hid b2
      clear b2
      go_wp2
      go_ret
      exact ⟨ret_int HF.out.symm, B2.out⟩

theorem eg_quota1 : ∀ args w, (callFunc 53 args).run Try.prog w = .ok (.enter 53 args) w := enters_of Try.func53 (by kernel_rfl) rfl
set_option maxRecDepth 100000 in
set_option maxHeartbeats 400000 in
theorem quotaCheck_any (a : Option Addr) (c : Nat) (t : Tr) (w : World) (hd : Head t) (hp3 : Pass t 3) (h : Nods w w.heap.size a c t) :
    Calls Try.prog 34 #[.agg #[.slice a t.length c]] w (CheckPost t 3 w) := by
  have H := Lib.hid h
  have HP := Lib.hid hp3
  have HD := Lib.hid hd
  clear h hp3 hd
  go_enter Try.func34, Try.ntmps34
  go_wp2
  go_ret
  refine ⟨_, _, rfl, (Below.refl _ _).alloc (Nat.le_refl _) _, eg_quota1, fun W hW n hn => ?_⟩
  have hb : Below w.heap.size w W := ((Below.refl _ _).alloc (Nat.le_refl _) _).trans (hW.mono (by simp))
  exact quotaCheck1_any a c t n w.heap.size W HD.out HP.out (H.out.up hb) ((One.new w _ _).below hW (by simp)) hn

/-! ## The four checks by number -/
def fnK (k : Nat) : FuncId := match k with
  | 0 => 31
  | 1 => 32
  | 2 => 33
  | _ => 34
theorem check_any (k : Nat) (a : Option Addr) (c : Nat) (t : Tr) (w : World) (hd : Head t) (hp : Pass t k) (hk : k < 4) (h : Nods w w.heap.size a c t) : Calls Try.prog (fnK k) #[.agg #[.slice a t.length c]] w (CheckPost t k w) := by
  match k, hk with
  | 0, _ => exact fieldCheck_any a c t w h
  | 1, _ => exact referenceCheck_any a c t w (Pass.ok1 hd hp) h
  | 2, _ => exact pathCheck_any a c t w (Pass.ok2 hd hp) h
  | 3, _ => exact quotaCheck_any a c t w hd hp h
theorem eg_fnK (k : Nat) (hk : k < 4) : ∀ args w, (callFunc (fnK k) args).run Try.prog w = .ok (.enter (fnK k) args) w := by
  match k, hk with
  | 0, _ => exact enters_of Try.func31 (by kernel_rfl) rfl
  | 1, _ => exact enters_of Try.func32 (by kernel_rfl) rfl
  | 2, _ => exact enters_of Try.func33 (by kernel_rfl) rfl
  | 3, _ => exact enters_of Try.func34 (by kernel_rfl) rfl

end Go.Proofs.Ytndhhofidkaomaa
