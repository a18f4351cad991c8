/- xattr.Get at every list and name. Conditions: the slice's cells lie in memory as they read. -/
import Derived.Test.YtgbmbhcoelijfaaAttrValid
namespace Go.Proofs.Ytgbmbhcoelijfaa
open Go.RowKit

def getF (xs : List Attr) (nm : ByteArray) : Int × Int := if (valA xs).1 = 0 then (if getA xs nm = ByteArray.empty then (6, 0) else (0, 0)) else valA xs
def getS (xs : List Attr) (nm : ByteArray) : ByteArray := if (valA xs).1 = 0 then getA xs nm else ByteArray.empty
def getV (xs : List Attr) (nm : ByteArray) : Value := .tuple #[.string (getS xs nm), faultV (getF xs nm).1 (getF xs nm).2]
theorem valA_00 {xs : List Attr} (h : (valA xs).1 = 0) : valA xs = (0, 0) := (good_of h).val

set_option maxHeartbeats 1000000 in
theorem get_any (v : Value) (xs : List Attr) (nm : ByteArray) (w : World) (h : Ats w w.heap.size v xs) :
    Calls Try.prog 13 #[v, .string nm] w fun e w' => e = .returned (getV xs nm) ∧ Below w.heap.size w w' := by
  have HC := Lib.hid (fun W (hb : Below w.heap.size w W) => validate_any v xs W (h.up hb))
  have H := Lib.hid h
  obtain ⟨a, c, rfl, hcap⟩ := h.form rfl
  clear h
  by_cases hv : (valA xs).1 = 0
  · have HG := Lib.hid (show getV xs nm = .tuple #[.string (getA xs nm), faultV (if getA xs nm = ByteArray.empty then 6 else 0) 0] by
      unfold getV getS getF; rw [if_pos hv, if_pos hv]; split <;> rfl)
    have HVO := Lib.hid (fun W (hb : Below w.heap.size w W) => valueOf_any _ xs nm W (H.out.up hb) (good_of hv).srt)
    unfold valAV at HC
    rw [valA_00 hv] at HC
    clear hv
    generalize getA xs nm = g at *
    go_enter Try.func13, Try.ntmps13
    go_wp2_with fail
    refine (HC.out _ ((Below.refl _ _).alloc (Nat.le_refl _) _)).mono ?_
    rintro e w1 ⟨rfl, b1⟩
    unfold faultV
    have X1 := (FBox.new w 0 0 24).below b1 (by first | omega | (simp; done) | (simp; omega))
    have B1 : Below w.heap.size w w1 := ((Below.refl _ _).alloc (Nat.le_refl _) _).trans (b1.mono (by first | omega | (simp; done) | (simp; omega)))
    have s1 := B1.size
    have l1 := X1.lt
    clear b1
    go_wp2_with fail
    refine (HVO.out _ (B1.alloc (by first | omega | (simp; done) | (simp; omega)) _)).mono ?_
    rintro e w2 ⟨rfl, b2⟩
    have X2 := (X1.alloc (.cells #[.int .i64 0, .int .i64 0] 24)).below b2 (by first | omega | (simp; done) | (simp; omega))
    have B2 : Below w.heap.size w w2 := (B1.alloc s1 _).trans (b2.mono (by first | omega | (simp; done) | (simp; omega)))
    have s2 := B2.size
    have l2 := X2.lt
    clear b2 X1 B1 s1 l1
    obtain ⟨_, a0, a1, f0, f1⟩ := X2
    by_cases hg : g = ByteArray.empty
    · have hz1 : g.toList.isEmpty = true := by rw [isEmpty_str]; simpa using hg
      rw [if_pos hg] at HG
      subst hg
      go_wp2
      refine bodyPost_ret (v := .tuple #[.string ByteArray.empty, faultV 6 0]) (by simp [results, Try.results13, faultV, go_sem, a0, a1]; rfl) rfl ⟨by rw [HG.out], ?_⟩
      exact (B2.setCell (by first | omega | (simp; done) | (simp; omega)) _).setCell (by first | omega | (simp; done) | (simp; omega)) _
    · have hz1 : g.toList.isEmpty = false := by rw [isEmpty_str]; simpa using hg
      rw [if_neg hg] at HG
      clear hg
      go_wp2
      refine bodyPost_ret (v := .tuple #[.string g, faultV 0 0]) (by simp [results, Try.results13, faultV, go_sem, a0, a1]) rfl ⟨by rw [HG.out], ?_⟩
      exact (B2.setCell (by first | omega | (simp; done) | (simp; omega)) _).setCell (by first | omega | (simp; done) | (simp; omega)) _
  · have HG := Lib.hid (show getV xs nm = .tuple #[.string ByteArray.empty, faultV (valA xs).1 (valA xs).2] by
      unfold getV getS getF; rw [if_neg hv, if_neg hv])
    unfold valAV at HC
    generalize (valA xs).1 = d at *
    generalize (valA xs).2 = i at *
    have hd1 : (d != 0) = true := by simpa using hv
    have hd2 : (d == 0) = false := by simpa using hv
    clear hv
    go_enter Try.func13, Try.ntmps13
    go_wp2_with fail
    refine (HC.out _ ((Below.refl _ _).alloc (Nat.le_refl _) _)).mono ?_
    rintro e w1 ⟨rfl, b1⟩
    unfold faultV
    obtain ⟨l1, a0, a1, f0, f1⟩ := (FBox.new w 0 0 24).below b1 (by first | omega | (simp; done) | (simp; omega))
    have B1 : Below w.heap.size w w1 := ((Below.refl _ _).alloc (Nat.le_refl _) _).trans (b1.mono (by first | omega | (simp; done) | (simp; omega)))
    clear b1
    go_wp2
    go_region
    all_goals
      go_wp2
      refine bodyPost_ret (v := .tuple #[.string ByteArray.empty, faultV d i]) (by simp [results, Try.results13, faultV, go_sem, a0, a1, l1]; try rfl) rfl ⟨by rw [HG.out], ?_⟩
      have := B1.size
      repeat (first | exact B1 | refine Below.setCell ?_ (by first | omega | (simp; done) | (simp; omega)) _ | refine Below.alloc ?_ (by first | omega | (simp; done) | (simp; omega)) _ | refine Below.drew ?_)

end Go.Proofs.Ytgbmbhcoelijfaa
