/- find of package fstree: the binary search for a name in the entries of a directory. Conditions: the slice's cells lie in memory as they read; the list is sorted by name. -/
import Derived.Test.YteomlacohddecaaDoorFsTree
import Derived.Deep.LoopGhost
import Derived.Deep.Draws
import Derived.BigQuiet

set_option linter.all false
namespace Go.Proofs.YteomlacohddecaaDoor
open Go.RowKit

theorem strs_at {w : World} {B n c : Nat} {a : Option Addr} {xs : List ByteArray} (h : Strs w B (.slice a n c) xs) (h0 : 0 < xs.length) : ∃ b o, a = some ⟨b, o, none⟩ ∧ b < B ∧ ∀ j, j < xs.length → w.cell? ⟨b, o + j, none⟩ = some (.string (xs.getD j ByteArray.empty)) := by
  obtain ⟨a', c', hv, _, _, _, hx⟩ := h
  injection hv with h1 _ h2
  subst h1
  exact hx h0
theorem deD_mem {es : List DE} {k : Nat} (h : k < es.length) : es.getD k D0 ∈ es := by rw [deD h]; exact List.getElem_mem h
/-- How many names are less. -/
def lowE (xs : List DE) (nm : ByteArray) : Nat := xs.countP (fun a => ltS a.n nm)
def fndE (xs : List DE) (nm : ByteArray) : Bool := decide (lowE xs nm < xs.length ∧ (xs.getD (lowE xs nm) D0).n = nm)
theorem countE_split (p : DE → Bool) : ∀ (l : List DE) (i : Nat), i ≤ l.length → (∀ j, j < i → p (l.getD j D0) = true) → (∀ j, i ≤ j → j < l.length → p (l.getD j D0) = false) → l.countP p = i
  | [], i, hi, _, _ => by
    have : i = 0 := by simpa using hi
    simp [this]
  | a :: r, 0, _, _, h2 => by
    have ha : p a = false := by simpa using h2 0 (Nat.le_refl _) (by simp)
    have := countE_split p r 0 (Nat.zero_le _) (fun j hj => absurd hj (Nat.not_lt_zero _)) (fun j _ hj => by simpa using h2 (j + 1) (Nat.zero_le _) (by simpa using hj))
    simp [ha, this]
  | a :: r, i + 1, hi, h1, h2 => by
    have ha : p a = true := by simpa using h1 0 (Nat.succ_pos _)
    have := countE_split p r i (by simpa using hi) (fun j hj => by simpa using h1 (j + 1) (by omega)) (fun j hij hj => by simpa using h2 (j + 1) (by omega) (by simpa using hj))
    simp [ha, this]
theorem srtE_at {xs : List DE} (h : xs.Pairwise (fun a b => ltS a.n b.n = true)) {i j : Nat} (hij : i < j) (hj : j < xs.length) : ltS (xs.getD i D0).n (xs.getD j D0).n = true := by
  rw [deD (by omega), deD hj]
  exact List.pairwise_iff_getElem.1 h i j (by omega) hj hij
/-- What the binary search's loop knows when it stops. -/
theorem lowE_of {xs : List DE} {nm : ByteArray} {i : Nat} (hi : i ≤ xs.length) (h1 : ∀ j, j < i → ltS (xs.getD j D0).n nm = true) (h2 : ∀ j, i ≤ j → j < xs.length → ltS (xs.getD j D0).n nm = false) : lowE xs nm = i :=
  countE_split _ xs i hi h1 h2
theorem lowE_le (xs : List DE) (nm : ByteArray) : lowE xs nm ≤ xs.length := List.countP_le_length
theorem lowE_lo {xs : List DE} (h : xs.Pairwise (fun a b => ltS a.n b.n = true)) (nm : ByteArray) : (∀ j, j < lowE xs nm → ltS (xs.getD j D0).n nm = true) ∧ (∀ j, lowE xs nm ≤ j → j < xs.length → ltS (xs.getD j D0).n nm = false) := by
  induction xs with
  | nil => exact ⟨fun j hj => by simp [lowE] at hj, fun j _ hj => by simp at hj⟩
  | cons a r ih =>
    rw [List.pairwise_cons] at h
    obtain ⟨i1, i2⟩ := ih h.2
    cases ha : ltS a.n nm with
    | true =>
      have e : lowE (a :: r) nm = lowE r nm + 1 := by unfold lowE; rw [List.countP_cons]; simp [ha]
      rw [e]
      refine ⟨fun j hj => ?_, fun j hj hl => ?_⟩
      · cases j with
        | zero => simpa using ha
        | succ j => simpa using i1 j (by omega)
      · cases j with
        | zero => omega
        | succ j => simpa using i2 j (by omega) (by simpa using hl)
    | false =>
      have hall : ∀ b ∈ r, ltS b.n nm = false := fun b hb => by
        cases hb2 : ltS b.n nm with
        | false => rfl
        | true => rw [ltS_trans (h.1 b hb) hb2] at ha; cases ha
      have e : lowE (a :: r) nm = 0 := by
        unfold lowE; rw [List.countP_cons, List.countP_eq_zero.2 (fun b hb => by rw [hall b hb]; simp)]; simp [ha]
      rw [e]
      refine ⟨fun j hj => by omega, fun j _ hl => ?_⟩
      cases j with
      | zero => simpa using ha
      | succ j => simpa using hall _ (deD_mem (by simpa using hl))
theorem fndE_iff {xs : List DE} {nm : ByteArray} : fndE xs nm = true ↔ lowE xs nm < xs.length ∧ (xs.getD (lowE xs nm) D0).n = nm := by unfold fndE; simp
def FcmpS (a b : ByteArray) : Int := if ltS a b = true then -1 else if ltS b a = true then 1 else 0
theorem FcmpS_lt {a b : ByteArray} : FcmpS a b < 0 ↔ ltS a b = true := by
  unfold FcmpS; split
  · rename_i h; simp [h]
  · rename_i h; split
    · simp [h]
    · simp [h]
theorem FcmpS_eq {a b : ByteArray} : FcmpS a b = 0 ↔ a = b := by
  unfold FcmpS; split
  · rename_i h; exact ⟨fun h' => (by cases h'), fun e => absurd e (ltS_ne h)⟩
  · rename_i h; split
    · rename_i h2; exact ⟨fun h' => (by cases h'), fun e => absurd e.symm (ltS_ne h2)⟩
    · rename_i h2; exact ⟨fun _ => ltS_eq (by simpa using h) (by simpa using h2), fun _ => rfl⟩
set_option maxHeartbeats 400000 in
theorem FnanS_any (a : ByteArray) (w : World) :
    Calls Tryd.prog 40 #[.string a] w fun e w' => e = .returned (.bool false) ∧ w' = w := by
  have hb : (a.toList == a.toList) = true := by simp
  go_enter Tryd.func40, Tryd.ntmps40
  go_wp2
  all_goals
    go_ret
    exact ⟨by first | rfl | simp, rfl⟩
set_option maxHeartbeats 400000 in
theorem FcompareS_any (a b : ByteArray) (w : World) :
    Calls Tryd.prog 19 #[.string a, .string b] w fun e w' => e = .returned (.int .i64 (FcmpS a b)) ∧ w' = w := by
  have HF := Lib.hid (show FcmpS a b = if ltS a b = true then -1 else if ltS b a = true then 1 else 0 from rfl)
  generalize FcmpS a b = q at *
  cases h1 : ltS a b with
  | true =>
    have hb : Op.bytesLess a.toList b.toList = true := h1
    rw [h1, if_pos rfl] at HF
    clear h1
    go_enter Tryd.func19, Tryd.ntmps19
    go_wp2_with fail
    refine (FnanS_any _ _).mono ?_
    rintro e w' ⟨rfl, rfl⟩
    go_wp2_with fail
    refine (FnanS_any _ _).mono ?_
    rintro e w' ⟨rfl, rfl⟩
    go_wp2_with fail
    go_ret
    exact ⟨ret_int HF.out.symm, rfl⟩
  | false =>
    have hb : Op.bytesLess a.toList b.toList = false := h1
    rw [h1, if_neg (by simp)] at HF
    cases h2 : ltS b a with
    | true =>
      have hn : (a.toList == b.toList) = false := by rw [beq_str]; simpa using (ltS_ne h2).symm
      rw [h2, if_pos rfl] at HF
      clear h1 h2
      go_enter Tryd.func19, Tryd.ntmps19
      go_wp2_with fail
      refine (FnanS_any _ _).mono ?_
      rintro e w' ⟨rfl, rfl⟩
      go_wp2_with fail
      refine (FnanS_any _ _).mono ?_
      rintro e w' ⟨rfl, rfl⟩
      go_wp2_with fail
      go_ret
      exact ⟨ret_int HF.out.symm, rfl⟩
    | false =>
      have hn : (a.toList == b.toList) = true := by rw [beq_str]; simpa using ltS_eq h1 h2
      rw [h2, if_neg (by simp)] at HF
      clear h1 h2
      go_enter Tryd.func19, Tryd.ntmps19
      go_wp2_with fail
      refine (FnanS_any _ _).mono ?_
      rintro e w' ⟨rfl, rfl⟩
      go_wp2_with fail
      refine (FnanS_any _ _).mono ?_
      rintro e w' ⟨rfl, rfl⟩
      go_wp2_with fail
      go_ret
      exact ⟨ret_int HF.out.symm, rfl⟩
set_option maxHeartbeats 400000 in
theorem Ffind1_any (x : ByteArray) (y : Int) (b : ByteArray) (w : World) :
    Calls Tryd.prog 18 #[.agg #[.string x, .int .i64 y], .string b] w fun e w' => e = .returned (.int .i64 (FcmpS x b)) ∧ Below w.heap.size w w' := by
  go_enter Tryd.func18, Tryd.ntmps18
  go_wp2_with fail
  refine (FcompareS_any _ _ _).mono ?_
  rintro e w' ⟨rfl, rfl⟩
  go_wp2
  go_ret
  exact ⟨rfl, (Below.refl _ _).alloc (Nat.le_refl _) _⟩
theorem Feg_find1 : ∀ args w, (callFunc 18 args).run Tryd.prog w = .ok (.enter 18 args) w := enters_of Tryd.func18 (by kernel_rfl) rfl

def SrtE (xs : List DE) : Prop := xs.Pairwise (fun a b => ltS a.n b.n = true)

set_option maxRecDepth 100000 in
set_option maxHeartbeats 1000000 in
theorem Fbsearch_any (v : Value) (xs : List DE) (nm : ByteArray) (w : World) (h : DEs w w.heap.size v xs) (hs : SrtE xs) :
    Calls Tryd.prog 17 #[v, .string nm, .func (.func 18) #[] #[]] w fun e w' => e = .returned (.tuple #[.int .i64 (lowE xs nm : Nat), .bool (fndE xs nm)]) ∧ Below w.heap.size w w' := by
  obtain ⟨a, c, rfl, hc, hl, hf, hx⟩ := h
  have eg := Feg_find1
  have HX := Lib.hid hx
  have HS := Lib.hid hs
  have hl2 : xs.length ≤ 4611686018427387904 := by omega
  clear hx hf hs
  have FN0 : Hid (fndE xs nm = decide (lowE xs nm < xs.length ∧ (xs.getD (lowE xs nm) D0).n = nm)) := Lib.hid rfl
  generalize hp : lowE xs nm = p at *
  have HP := Lib.hid hp
  clear hp
  generalize fndE xs nm = q at *
  go_enter Tryd.func17, Tryd.ntmps17
  go_wp2
  go_loopg [9, 10] xs.length (fun gg s9 s10 wr => ∃ i j : Nat, i ≤ j ∧ j ≤ xs.length ∧ j - i ≤ gg ∧ s9 = .int .i64 i ∧ s10 = .int .i64 j ∧ Aside (Below w.heap.size w wr) ∧ Aside ((∀ k, k < i → ltS (xs.getD k D0).n nm = true) ∧ (∀ k, j ≤ k → k < xs.length → ltS (xs.getD k D0).n nm = false)))
  case atStart => exact ⟨0, xs.length, Nat.zero_le _, Nat.le_refl _, by omega, rfl, rfl, Below.refl _ w, (show _ ∧ _ from ⟨fun j hj => absurd hj (Nat.not_lt_zero _), fun k h1 h2 => absurd h1 (by omega)⟩)⟩
  case round =>
    obtain ⟨i, j, hij, hj, hg, rfl, rfl, BW, I⟩ := hrel
    by_cases hlt : i < j
    · have hm : (i + j) / 2 < xs.length := by omega
      obtain ⟨b, o, rfl, hb, hcell⟩ := HX.out (by omega)
      have g0 : wr.cell? ⟨b, o + (i + j) / 2 * 2, none⟩ = some (.string (xs.getD ((i + j) / 2) D0).n) := (BW.out.cell (p := ⟨b, _, none⟩) hb).trans (hcell _ hm).1
      have g1 : wr.cell? ⟨b, o + (i + j) / 2 * 2 + 1, none⟩ = some (.int .i64 (xs.getD ((i + j) / 2) D0).i) := (BW.out.cell (p := ⟨b, _, none⟩) hb).trans (hcell _ hm).2
      clear hcell
      generalize hy : xs.getD ((i + j) / 2) D0 = y at g0 g1
      obtain ⟨x, z⟩ := y
      have Y := Lib.hid hy
      clear hy
      have hcall := fun W => Ffind1_any x z nm W
      have hq := FcmpS_lt (a := x) (b := nm)
      generalize FcmpS x nm = q at hcall hq
      have HQ := Lib.hid hq
      clear hq
      by_cases hq0 : q < 0
      · go_wp2_with (go_at_fn 18; refine (hcall _).mono ?_; rintro e w' ⟨rfl, hb'⟩)
        go_roundg (j - ((i + j) / 2 + 1))
        case measure => omega
        case rel =>
          have hlt2 := HQ.out.1 hq0
          have I2 : Aside ((∀ k, k < (i + j) / 2 + 1 → ltS (xs.getD k D0).n nm = true) ∧ (∀ k, j ≤ k → k < xs.length → ltS (xs.getD k D0).n nm = false)) := by
            refine (show _ ∧ _ from ⟨fun k hk => ?_, I.out.2⟩)
            by_cases e : k = (i + j) / 2
            · subst e; rw [Y.out]; exact hlt2
            · refine ltS_trans (srtE_at HS.out (i := k) (j := (i + j) / 2) (by omega) hm) ?_
              rw [Y.out]; exact hlt2
          exact ⟨(i + j) / 2 + 1, j, by omega, hj, Nat.le_refl _, by rw [show ((i : Int) + (j : Int)) / 2 + 1 = (((i + j) / 2 + 1 : Nat) : Int) by omega], rfl, BW.out.trans (hb'.mono BW.out.size), I2⟩
      · go_wp2_with (go_at_fn 18; refine (hcall _).mono ?_; rintro e w' ⟨rfl, hb'⟩)
        go_roundg ((i + j) / 2 - i)
        case measure => omega
        case rel =>
          have hlt2 : ltS x nm = false := by
            cases hh : ltS x nm with
            | false => rfl
            | true => exact absurd (HQ.out.2 hh) (by omega)
          have I2 : Aside ((∀ k, k < i → ltS (xs.getD k D0).n nm = true) ∧ (∀ k, (i + j) / 2 ≤ k → k < xs.length → ltS (xs.getD k D0).n nm = false)) := by
            refine (show _ ∧ _ from ⟨I.out.1, fun k hk hkl => ?_⟩)
            by_cases e : k = (i + j) / 2
            · subst e; rw [Y.out]; exact hlt2
            · cases hh : ltS (xs.getD k D0).n nm with
              | false => rfl
              | true =>
                have := ltS_trans (srtE_at HS.out (i := (i + j) / 2) (j := k) (by omega) hkl) hh
                rw [Y.out] at this
                simp only at this
                rw [hlt2] at this; cases this
          exact ⟨i, (i + j) / 2, by omega, by omega, Nat.le_refl _, rfl, by rw [show ((i : Int) + (j : Int)) / 2 = (((i + j) / 2 : Nat) : Int) by omega], BW.out.trans (hb'.mono BW.out.size), I2⟩
    · obtain rfl : i = j := by omega
      have ecnt := lowE_of hj I.out.1 I.out.2
      rw [HP.out] at ecnt
      subst ecnt
      have FN := FN0
      clear FN0
      by_cases hn : p < xs.length
      · have hnz : (p : Int) < (xs.length : Int) := by omega
        obtain ⟨b, o, rfl, hb, hcell⟩ := HX.out (by omega)
        have g0 : wr.cell? ⟨b, o + p * 2, none⟩ = some (.string (xs.getD p D0).n) := (BW.out.cell (p := ⟨b, _, none⟩) hb).trans (hcell _ hn).1
        have g1 : wr.cell? ⟨b, o + p * 2 + 1, none⟩ = some (.int .i64 (xs.getD p D0).i) := (BW.out.cell (p := ⟨b, _, none⟩) hb).trans (hcell _ hn).2
        clear hcell
        generalize hy : xs.getD p D0 = y at g0 g1 FN
        obtain ⟨x, z⟩ := y
        clear hy
        simp only [hn, true_and] at FN
        have hcall := fun W => Ffind1_any x z nm W
        have hq := FcmpS_eq (a := x) (b := nm)
        generalize FcmpS x nm = r at hcall hq
        have HQ := Lib.hid hq
        clear hq
        by_cases hr : r = 0
        · have hr1 : (r == 0) = true := by simpa using hr
          have HR := Lib.hid (HQ.out.1 hr)
          clear hr
          go_wp2_with (go_at_fn 18; refine (hcall _).mono ?_; rintro e w' ⟨rfl, hb'⟩)
          go_ret2
          refine ⟨?_, BW.out.trans (hb'.mono BW.out.size)⟩
          rw [FN.out, decide_eq_true HR.out]
          first | rfl | simp
        · have hr1 : (r == 0) = false := by simpa using hr
          have HR := Lib.hid (fun e => hr (HQ.out.2 e))
          clear hr
          go_wp2_with (go_at_fn 18; refine (hcall _).mono ?_; rintro e w' ⟨rfl, hb'⟩)
          go_ret2
          refine ⟨?_, BW.out.trans (hb'.mono BW.out.size)⟩
          rw [FN.out, decide_eq_false HR.out]
          first | rfl | simp
      · have hnd : decide ((p : Int) < (xs.length : Int)) = false := by simp; omega
        have hpp : ¬ ((p : Int) < (p : Int)) := by omega
        have F2 : Hid (q = false) := Lib.hid (by rw [FN.out]; simp [hn])
        clear FN
        go_wp2
        go_ret2
        refine ⟨?_, BW.out⟩
        rw [F2.out]
        first | rfl | simp

theorem Ffind_any (v : Value) (xs : List DE) (nm : ByteArray) (w : World) (h : DEs w w.heap.size v xs) (hs : SrtE xs) :
    Calls Tryd.prog 9 #[v, .string nm] w fun e w' => e = .returned (.tuple #[.int .i64 (lowE xs nm : Nat), .bool (fndE xs nm)]) ∧ Below w.heap.size w w' := by
  have hc := Fbsearch_any v xs nm w h hs
  generalize lowE xs nm = p at *
  generalize fndE xs nm = q at *
  obtain ⟨a, c, rfl, _⟩ := h
  go_enter Tryd.func9, Tryd.ntmps9
  go_wp2_with fail
  refine hc.mono ?_
  rintro e w' ⟨rfl, hb⟩
  go_wp2
  go_ret2
  exact ⟨rfl, hb⟩


/-- An entry with this name is the one that is found. -/
theorem found_iff {es : List DE} (h : SrtE es) {nm : ByteArray} : (fndE es nm = true → es.getD (lowE es nm) D0 ∈ es ∧ (es.getD (lowE es nm) D0).n = nm) ∧ (fndE es nm = false → ∀ e ∈ es, e.n ≠ nm) := by
  constructor
  · intro hf
    obtain ⟨h1, h2⟩ := fndE_iff.1 hf
    exact ⟨deD_mem h1, h2⟩
  · intro hf e he hn
    obtain ⟨j, hj, rfl⟩ := List.mem_iff_getElem.1 he
    have hlow := lowE_of (xs := es) (nm := nm) (i := j) (Nat.le_of_lt hj) (fun k hk => by
      rw [← hn, ← deD hj]; exact srtE_at h hk hj) (fun k hk hkl => by
      by_cases e : k = j
      · subst e; rw [deD hj, hn]; exact ltS_irrefl _
      · have := srtE_at h (i := j) (j := k) (by omega) hkl
        rw [deD hj, hn] at this
        exact ltS_asymm this)
    have : fndE es nm = true := fndE_iff.2 (by rw [hlow]; exact ⟨hj, by rw [deD hj]; exact hn⟩)
    rw [hf] at this; cases this
theorem entry_same {es : List DE} (h : SrtE es) {a b : DE} (ha : a ∈ es) (hb : b ∈ es) (he : a.n = b.n) : a = b := by
  obtain ⟨i, hi, rfl⟩ := List.mem_iff_getElem.1 ha
  obtain ⟨j, hj, rfl⟩ := List.mem_iff_getElem.1 hb
  rcases Nat.lt_trichotomy i j with hl | hl | hl
  · exact absurd he (ltS_ne (List.pairwise_iff_getElem.1 h i j hi hj hl))
  · subst hl; rfl
  · exact absurd he.symm (ltS_ne (List.pairwise_iff_getElem.1 h j i hj hi hl))

end Go.Proofs.YteomlacohddecaaDoor
