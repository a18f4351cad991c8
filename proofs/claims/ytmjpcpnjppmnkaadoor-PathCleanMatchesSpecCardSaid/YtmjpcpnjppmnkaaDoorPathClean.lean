/- path.Clean at every string: the cleaned path or the fault. Conditions: those of path.Split. -/
import Derived.Test.YtmjpcpnjppmnkaaDoorPathTrip
import Derived.Test.YtmjpcpnjppmnkaaDoorPathConst
namespace Go.Proofs.YtmjpcpnjppmnkaaDoor
open Go.RowKit

theorem stepC_len (acc : List ByteArray) (e : ByteArray) : (stepC acc e).length ≤ acc.length + 1 := by
  unfold stepC
  split
  · omega
  · split
    · simp; omega
    · simp
theorem fold_len (xs : List ByteArray) : ∀ acc : List ByteArray, (xs.foldl stepC acc).length ≤ acc.length + xs.length := by
  induction xs with
  | nil => intro acc; simp
  | cons x r ih =>
    intro acc
    have h1 := ih (stepC acc x)
    have h2 := stepC_len acc x
    simp only [List.foldl_cons, List.length_cons]; omega
theorem fold_take {xs : List ByteArray} {k : Nat} (h : k < xs.length) : (xs.take (k + 1)).foldl stepC [] = stepC ((xs.take k).foldl stepC []) (xs.getD k ByteArray.empty) := by
  rw [List.take_succ_eq_append_getElem h, getD_eq h, List.foldl_append]; rfl
theorem stepC_mem {acc : List ByteArray} {e x : ByteArray} (h : x ∈ stepC acc e) : x ∈ acc ∨ x = e := by
  unfold stepC at h
  split at h
  · exact .inl h
  · split at h
    · exact .inl ((List.dropLast_sublist _).subset h)
    · rcases List.mem_append.1 h with h | h
      · exact .inl h
      · exact .inr (by simpa using h)
theorem fold_mem (xs : List ByteArray) : ∀ (acc : List ByteArray) (x : ByteArray), x ∈ xs.foldl stepC acc → x ∈ acc ∨ x ∈ xs := by
  induction xs with
  | nil => intro acc x h; exact .inl h
  | cons y r ih =>
    intro acc x h
    rw [List.foldl_cons] at h
    rcases ih _ _ h with h | h
    · rcases stepC_mem h with h | h
      · exact .inl h
      · exact .inr (by simp [h])
    · exact .inr (by simp [h])

set_option maxHeartbeats 400000 in
theorem pathClean_long (s : ByteArray) (w : World) (hs : s.size ≤ maxLen) (hl : 100 < s.size) :
    Calls Tryd.prog 11 #[.string s] w fun e w' => e = .returned (cleanV s) ∧ Below w.heap.size w w' := by
  unfold maxLen at hs
  have HF := Lib.hid (show cleanV s = .tuple #[.string ⟨#[]⟩, .agg #[.int .i64 2, .int .i64 0]] by unfold cleanV; rw [if_pos hl])
  have hl2 : (100 : Int) < (s.size : Int) := by omega
  go_enter Tryd.func11, Tryd.ntmps11
  go_wp2
  refine bodyPost_ret (v := .tuple #[.string ⟨#[]⟩, .agg #[.int .i64 2, .int .i64 0]]) ?_ rfl ⟨by rw [HF.out], ?_⟩
  · simp [results, Tryd.results11, go_sem]
  · repeat (first | exact Below.refl _ _ | refine Below.setCell ?_ (by simp) _ | refine Below.alloc ?_ (by simp) _ | refine Below.drew ?_)

set_option maxHeartbeats 1000000 in
theorem pathClean_short (s : ByteArray) (w : World) (hg : GM w) (hl : ¬ 100 < s.size) :
    Calls Tryd.prog 11 #[.string s] w fun e w' => e = .returned (cleanV s) ∧ Below w.heap.size w w' := by
  have HF := Lib.hid (show cleanV s = joinV ((comps s.data.toList).foldl stepC []) by unfold cleanV cleanL; rw [if_neg hl])
  have hmf : ∀ (fn : Fn) (first cap : Array Value) (w : World), (Instr.makeFunc fn first cap).run Tryd.prog w = .ok (.func fn first cap) w := fun _ _ _ _ => rfl
  have hl2 : ¬ (100 : Int) < (s.size : Int) := by omega
  have hS := fun W (hb : Below w.heap.size w W) => splitS_any s W (hg.below hb) (by omega)
  have hcl := comps_len_le s.data.toList
  have hsl : s.data.toList.length = s.size := by simp
  have hnl : (comps s.data.toList).length ≤ 101 := by omega
  clear hcl hsl
  generalize comps s.data.toList = xs at *
  have HS := Lib.hid hS
  clear hS
  go_enter Tryd.func11, Tryd.ntmps11
  go_wp2_with fail
  refine (HS.out _ (((Below.refl _ _).alloc (Nat.le_refl _) _).alloc (by simp) _)).mono ?_
  rintro e w1 ⟨rfl, hS0, b1⟩
  have hS1 : Strs w1 w1.heap.size (.slice (some ⟨w.heap.size + 1 + 1, 0, none⟩) xs.length xs.length) xs := by simpa using hS0
  have B1 : Below w.heap.size w w1 := (((Below.refl _ _).alloc (Nat.le_refl _) _).alloc (by simp) _).trans (b1.mono (by simp; omega))
  have X1 := Lib.hid (((FBox.new w 0 0 24).alloc (.cells #[.slice none 0 0] 22)).below b1 (by simp; omega))
  have hz1 : w.heap.size + 1 + 1 ≤ w1.heap.size := by have := b1.size; simp at this; omega
  have hc1 : w1.cell? ⟨w.heap.size + 1, 0, none⟩ = some (.slice none 0 0) := by
    rw [b1.cell (p := ⟨w.heap.size + 1, 0, none⟩) (by simp)]; simp
  have hf1 : w1.frozen? ⟨w.heap.size + 1, 0, none⟩ = false := by
    rw [b1.frozen (p := ⟨w.heap.size + 1, 0, none⟩) (by simp)]; simp
  have ST := Lib.hid (show CState w1 w1 (w.heap.size + 1) w1.heap.size [] from ⟨_, hc1, hf1, ⟨rfl, .inl ⟨rfl, rfl⟩⟩, BelowBut.refl _ _ _⟩)
  have HS1 := Lib.hid hS1
  clear hS0 b1 hc1 hf1
  obtain ⟨_, _, hv, _, _, _, hx⟩ := hS1
  injection hv with hv1 hv2 hv3
  subst hv1
  clear hv2 hv3
  have eg : ∀ args w, (callFunc 22 args).run Tryd.prog w = .ok (.enter 22 args) w := enters_of Tryd.func22 (by kernel_rfl) rfl
  go_wp2
  go_loopg [16] xs.length (fun gg s16 wr => ∃ kk : Nat, kk ≤ xs.length ∧ xs.length - kk ≤ gg ∧ s16 = .int .i64 kk ∧ Aside (CState w1 wr (w.heap.size + 1) w1.heap.size ((xs.take kk).foldl stepC [])))
  case atStart => exact ⟨0, Nat.zero_le _, by omega, rfl, ST.out⟩
  case round =>
    obtain ⟨kk, hkk, hgg, rfl, SK⟩ := hrel
    by_cases hlt : kk < xs.length
    · have hltz : (kk : Int) < (xs.length : Int) := by omega
      obtain ⟨b, o, hbo, hb, hj⟩ := hx (by omega)
      injection hbo with hbo
      injection hbo with hb1 ho1
      subst hb1; subst ho1
      obtain ⟨vk, _, _, _, hbut⟩ := SK.out
      have hsz := hbut.size
      have hcell : wr.cell? ⟨w.heap.size + 1 + 1, kk, none⟩ = some (.string (xs.getD kk ByteArray.empty)) := by
        rw [hbut.cell (p := ⟨w.heap.size + 1 + 1, kk, none⟩) hb (by simp)]
        have := hj kk hlt
        rwa [Nat.zero_add] at this
      have HT := Lib.hid (fold_take hlt)
      have hal : ((xs.take kk).foldl stepC []).length ≤ 1000 := by
        have := fold_len (xs.take kk) []
        have h2 : (xs.take kk).length ≤ xs.length := by simp; omega
        simp at this h2; omega
      clear hx hj hbut
      generalize xs.getD kk ByteArray.empty = y at *
      generalize (xs.take kk).foldl stepC [] = acc at *
      have SK2 := Lib.hid (show CState wr wr (w.heap.size + 1) w1.heap.size acc from by
        obtain ⟨v, h1, h2, h3, _⟩ := SK.out
        exact ⟨v, h1, h2, h3, BelowBut.refl _ _ _⟩)
      have BK := Lib.hid (show BelowBut (w.heap.size + 1) w1.heap.size w1 wr from by
        obtain ⟨v, h1, h2, h3, h4⟩ := SK.out
        exact h4)
      clear SK
      go_wp2_with fail
      refine (clean1_any (w.heap.size + 1) w1.heap.size y acc wr (by omega) hsz SK2.out hal).mono ?_
      rintro e w2 ⟨rfl, hst⟩
      have SN := Lib.hid (show CState w1 w2 (w.heap.size + 1) w1.heap.size (stepC acc y) from by
        obtain ⟨v, h1, h2, h3, h4⟩ := hst
        exact ⟨v, h1, h2, h3, BK.out.trans h4⟩)
      clear hst
      go_wp2
      go_roundg (xs.length - (kk + 1))
      case measure => omega
      case rel => exact ⟨kk + 1, by omega, by omega, by go_num, by rw [HT.out]; exact SN.out⟩
    · have hltz : ¬ (kk : Int) < (xs.length : Int) := by omega
      have e : kk = xs.length := by omega
      have SE := Lib.hid (show CState w1 wr (w.heap.size + 1) w1.heap.size (xs.foldl stepC []) from by
        have := SK.out
        rwa [e, List.take_length] at this)
      clear SK e hx
      obtain ⟨v, h1, h2, h3, h4⟩ := SE.out
      have HO := Lib.hid h3
      have HB := Lib.hid h4
      clear h3 h4
      have hfm : ∀ x ∈ xs.foldl stepC [], x.size ≤ maxLen := fun x hx => by
        obtain ⟨_, _, _, _, _, hs, _⟩ := HS1.out
        rcases fold_mem xs [] x hx with h | h
        · cases h
        · exact hs x h
      have hfl : (xs.foldl stepC []).length ≤ 8796093022208 := by
        have := fold_len xs []
        simp at this; omega
      have hcon := pathJoin_any v _ wr (strs_own HO.out hfl hfm)
      have hszr := HB.out.size
      have BR : Below w.heap.size w wr := B1.trans (HB.out.below (by omega) (by omega))
      have XR : FBox wr w.heap.size 0 0 := by
        obtain ⟨y1, y2, y3, y4, y5⟩ := X1.out
        exact ⟨by omega, (HB.out.cell (p := ⟨w.heap.size, 0, none⟩) (by simp; omega) (by simp)).trans y2, (HB.out.cell (p := ⟨w.heap.size, 1, none⟩) (by simp; omega) (by simp)).trans y3,
          (HB.out.frozen (p := ⟨w.heap.size, 0, none⟩) (by simp; omega) (by simp)).trans y4, (HB.out.frozen (p := ⟨w.heap.size, 1, none⟩) (by simp; omega) (by simp)).trans y5⟩
      obtain ⟨S, c, i, hJ⟩ := joinV_form (xs.foldl stepC [])
      have HV := Lib.hid (show cleanV s = .tuple #[.string S, .agg #[.int .i64 c, .int .i64 i]] by rw [HF.out, hJ])
      rw [hJ] at hcon
      have HC := Lib.hid hcon
      clear hfm hfl hJ hcon
      go_wp2_with fail
      refine HC.out.mono ?_
      rintro e w3 ⟨rfl, b3⟩
      obtain ⟨l1, g0, g1, f0, f1⟩ := XR.below b3 XR.lt
      have B3 : Below w.heap.size w w3 := BR.trans (b3.mono (by omega))
      clear b3
      go_wp2
      refine bodyPost_ret (v := .tuple #[.string S, .agg #[.int .i64 c, .int .i64 i]]) ?_ rfl ⟨by rw [HV.out], ?_⟩
      · simp [results, Tryd.results11, go_sem, g0, g1]
      · repeat (first | exact B3 | refine Below.setCell ?_ (by first | omega | (simp; done) | (simp; omega)) _ | refine Below.alloc ?_ (by first | omega | (simp; done) | (simp; omega)) _ | refine Below.drew ?_)

theorem pathClean_any (s : ByteArray) (w : World) (hg : GM w) (hs : s.size ≤ maxLen) :
    Calls Tryd.prog 11 #[.string s] w fun e w' => e = .returned (cleanV s) ∧ Below w.heap.size w w' := by
  by_cases hl : 100 < s.size
  · exact pathClean_long s w hs hl
  · exact pathClean_short s w hg hl

end Go.Proofs.YtmjpcpnjppmnkaaDoor
