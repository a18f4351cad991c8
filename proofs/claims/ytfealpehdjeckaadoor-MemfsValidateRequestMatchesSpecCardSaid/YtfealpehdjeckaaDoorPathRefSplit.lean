/- The reference's SplitAt at a slash and its Split, at every string of at most 100 bytes resp. of at most the model's longest length: the same components and fault as path.Split. -/
import Derived.Test.YtfealpehdjeckaaDoorPathSplit
import Derived.Laws.OwnMore
namespace Go.Proofs.YtfealpehdjeckaaDoor
open Go.RowKit

theorem info9 : (Tryd.prog.info? 9).map (fun i => (i.zero, i.size, i.bytes)) = some (some (.string ByteArray.empty), 1, 16) := by kernel_rfl

/-- What the scan holds after k bytes. -/
def Scan (s : ByteArray) (w : World) (k : Nat) (out now : Value) (wr : World) : Prop :=
  ∃ (done : List (List UInt8)) (nl : List UInt8), now = .string (toB nl) ∧ wr.ownsRow w.heap.size 9 1 out done.length (done.map fun l => Value.string (toB l)) ∧
    done.length ≤ k ∧ nl.length ≤ k ∧ done ++ glue nl (pieces (s.data.toList.drop k)) = pieces s.data.toList ∧ Below w.heap.size w wr
theorem drop_get {s : ByteArray} {k : Nat} (h : k < s.size) : s.data.toList.drop k = s[k] :: s.data.toList.drop (k + 1) := by
  rw [List.drop_eq_getElem_cons (by simpa using h)]; rfl
theorem one_byte {s : ByteArray} {k : Nat} (h : k < s.size) (nl : List UInt8) : toB nl ++ s.extract k (k + 1) = toB (nl ++ [s[k]]) := by
  have h1 : (s.extract k (k + 1)).data.toList = [s[k]] := by
    rw [Lib.extract_data]
    have h2 := drop_get h
    simp only [Nat.add_sub_cancel_left] at *
    rw [h2]; rfl
  rw [← toB_of (s.extract k (k + 1)), h1]
  apply ByteArray.ext
  simp [toB]
theorem Strs.set2 {w : World} {B : Nat} {v : Value} {xs : List ByteArray} (h : Strs w B v xs) {p : Addr} (hp : ∀ g, v.ownBlock = some g → g ≠ p.block) (u : Value) : Strs (w.setCell p u) B v xs := by
  obtain ⟨a, c, hv, hc, hl, hs, hx⟩ := h
  refine ⟨a, c, hv, hc, hl, hs, fun h0 => ?_⟩
  obtain ⟨b, o, ha, hB, hj⟩ := hx h0
  subst ha; subst hv
  exact ⟨_, _, rfl, hB, fun j hjl => (World.cell?_setCell_other w p _ u (fun e => hp b rfl (by rw [e]))).trans (hj j hjl)⟩
theorem strs_own {w : World} {base : Nat} {t : TypeId} {v : Value} {n : Nat} {xs : List ByteArray} (h : w.ownsRow base t 1 v n (xs.map Value.string)) (hl : xs.length ≤ 35184372088832) (hs : ∀ x ∈ xs, x.size ≤ maxLen) : Strs w w.heap.size v xs := by
  have hn : xs.length = n := by have := h.1; simpa using this
  subst hn
  have h0 := h
  rcases h0.2 with ⟨rfl, he⟩ | ⟨g, cap, cur, rfl, _, _, hcap, _⟩
  · refine ⟨none, 0, by rw [he], by omega, hl, hs, fun hp => ?_⟩
    omega
  · refine ⟨_, _, rfl, hcap, hl, hs, fun hp => ⟨g, 0, rfl, (h.lt g rfl).2, fun j hj => ?_⟩⟩
    rw [Nat.zero_add, h.cellAt j (by omega), List.getD_eq_getElem?_getD, List.getElem?_map, List.getElem?_eq_getElem hj]
    rfl

set_option maxHeartbeats 800000 in
theorem splitAt_any (s : ByteArray) (w : World) (hs : s.size ≤ 100) :
    Calls Tryd.prog 19 #[.string s, .int .u8 47] w fun e w' =>
      ∃ v, e = .returned v ∧ Strs w' w'.heap.size v (comps s.data.toList) ∧ Below w.heap.size w w' ∧ (∀ g, v.ownBlock = some g → w.heap.size ≤ g) := by
  obtain ⟨i0, hi, hz0, hz1, hz2⟩ := info_parts info9
  go_enter Tryd.func19, Tryd.ntmps19
  go_wp2
  go_loopw [5, 6, 7] (fun out now i wr => ∃ k : Nat, k ≤ s.size ∧ i = .int .i64 k ∧ Scan s w k out now wr) (fun _ _ i _ => s.size - (intOf i).toNat)
  case atStart => exact ⟨0, Nat.zero_le _, rfl, [], [], rfl, ⟨rfl, .inl ⟨rfl, rfl⟩⟩, Nat.le_refl _, Nat.le_refl _, by simp [glue_nil], Below.refl _ _⟩
  case round =>
    obtain ⟨k, hk, rfl, hscan⟩ := hrel
    by_cases hlt : k < s.size
    · have hltz : (k : Int) < (s.size : Int) := by omega
      obtain ⟨done, nl, rfl, hown, hd, hn, hp, hb⟩ := hscan
      rw [drop_get hlt] at hp
      have hnl : (toB nl).size = nl.length := by simp [toB, ByteArray.size]
      by_cases hc : s[k] = 47
      · have hcb : ((s[k].toNat : Int) == 47) = true := by rw [hc]; rfl
        rw [hc, glue_slash] at hp
        have HP := Lib.hid hp
        have HB := Lib.hid hb
        have hb1 := hb.size
        have HG := Lib.hid hown.lt
        clear hp hb hc
        go_wp2_with (at_builtin; refine wpList_append_own _ rfl _ _ 34 rfl w.heap.size 9 i0 (.string ByteArray.empty) 1 16 Tryd.underlying34 hi hz0 hz1 hz2 rfl (by decide) _ _ _ rfl (hown.alloc _) ⟨wr.heap.size, 0, none⟩ 1 1 [.string (toB nl)] rfl rfl ?c1 ?c2 ?c3 ?c4 ?c5 ?_)
        case c1 => exact cell_one_new _ _ _
        case c2 => simp [Value.oneCell']
        case c3 => unfold maxLen; omega
        case c4 => omega
        case c5 => simp; omega
        intro v' w1 hown1 hgrow1 _
        have HO := Lib.hid hown1
        clear hown hown1
        go_wp2
        go_roundw
        case rel =>
          refine ⟨k + 1, by omega, by go_num, done ++ [nl], [], rfl, ?_, by simp; omega, by simp, ?_, ?_⟩
          · simpa using HO.out
          · rw [glue_nil, List.append_assoc]; exact HP.out
          · exact (HB.out.alloc hb1 _).grown hgrow1 (by simp; omega) (fun g hg => (HG.out g hg).1)
        case measure => simp [intOf]; omega
      · have hcb : ((s[k].toNat : Int) == 47) = false := by
          rw [beq_eq_false_iff_ne]; intro h; apply hc
          have : s[k].toNat = 47 := by omega
          exact UInt8.toNat_inj.1 this
        rw [glue_other _ _ hc] at hp
        have HP := Lib.hid hp
        have HB := Lib.hid hb
        have HO := Lib.hid hown
        clear hp hb hc hown
        go_wp2
        go_roundw
        case rel =>
          exact ⟨k + 1, by omega, by go_num, done, nl ++ [s[k]], by rw [one_byte hlt], HO.out, by omega, by simp; omega, HP.out, HB.out⟩
        case measure => simp [intOf]; omega
    · have hltz : ¬ (k : Int) < (s.size : Int) := by omega
      obtain ⟨done, nl, rfl, hown, hd, hn, hp, hb⟩ := hscan
      have hnl : (toB nl).size = nl.length := by simp [toB, ByteArray.size]
      have hdrop : s.data.toList.drop k = [] := by rw [List.drop_eq_nil_iff]; simp; omega
      rw [hdrop, glue_end] at hp
      have HP := Lib.hid hp
      have HB := Lib.hid hb
      have hb1 := hb.size
      have HG := Lib.hid hown.lt
      clear hp hb hdrop
      go_wp2_with (at_builtin; refine wpList_append_own _ rfl _ _ 34 rfl w.heap.size 9 i0 (.string ByteArray.empty) 1 16 Tryd.underlying34 hi hz0 hz1 hz2 rfl (by decide) _ _ _ rfl (hown.alloc _) ⟨wr.heap.size, 0, none⟩ 1 1 [.string (toB nl)] rfl rfl ?d1 ?d2 ?d3 ?d4 ?d5 ?_)
      case d2 => simp [Value.oneCell']
      case d3 => unfold maxLen; omega
      case d4 => omega
      case d5 => omega
      intro v' w1 hown1 hgrow1 _
      have HO := Lib.hid hown1
      have HOL := Lib.hid hown1.lt
      clear hown hown1
      go_wp2
      go_ret
      have hcomps : comps s.data.toList = (done ++ [nl]).map toB := by unfold comps; rw [← HP.out]
      refine ⟨_, rfl, ?_, (HB.out.alloc hb1 _).grown hgrow1 (by simp; omega) (fun g hg => (HG.out g hg).1), fun g hg => (HOL.out g hg).1⟩
      refine strs_own (base := w.heap.size) (t := 9) (n := done.length + 1) ?_ ?_ ?_
      · have h := HO.out
        rw [hcomps]
        simpa [Function.comp_def] using h
      · have := comps_len_le s.data.toList
        have h3 : s.data.toList.length = s.size := by simp
        omega
      · intro x hx
        have := comps_size hx
        have h3 : s.data.toList.length = s.size := by simp
        unfold maxLen; omega

set_option maxHeartbeats 400000 in
theorem refSplit_long (p : ByteArray) (w : World) (hp : p.size ≤ maxLen) (hl : 100 < p.size) :
    Calls Tryd.prog 8 #[.string p] w (SplitPost p w) := by
  unfold maxLen at hp
  have HF := Lib.hid (show splitF p = (2, 0) by unfold splitF; rw [if_pos hl])
  have hl2 : (100 : Int) < (p.size : Int) := by omega
  go_enter Tryd.func8, Tryd.ntmps8
  go_wp2_with fail
  refine (newFault_any _ _ _).mono ?_
  rintro e w' ⟨rfl, hb'⟩
  have hlt' : w.heap.size < w'.heap.size := by have := hb'.size; simp at this; omega
  obtain ⟨_, g0, g1, f0, f1⟩ := (FBox.new w 0 0 29).below hb' (by simp)
  have hB : Below w.heap.size w w' := ((Below.refl _ _).alloc (Nat.le_refl _) _).trans (hb'.mono (by simp))
  clear hb'
  go_wp2
  refine bodyPost_ret (v := .tuple #[.slice none 0 0, .agg #[.int .i64 2, .int .i64 0]]) ?_ rfl (splitPost_fault HF.out (by decide) ?_)
  · simp [results, Tryd.results8, go_sem, g0, g1]
  · repeat (first | exact hB | refine Below.setCell ?_ (by simp) _ | refine Below.alloc ?_ (by simp; omega) _ | refine Below.drew ?_)

theorem splitF_bare {p : ByteArray} (hl : ¬ 100 < p.size) (hr : ∀ r, p.data.toList ≠ 47 :: r) : splitF p = (5, 0) := by
  unfold splitF; rw [if_neg hl]
  cases hd : p.data.toList with
  | nil => rfl
  | cons c r =>
    have : c ≠ 47 := fun e => hr r (by rw [hd, e])
    simp only [if_neg this]

set_option maxHeartbeats 400000 in
theorem refSplit_bare (p : ByteArray) (w : World) (hp : p.size ≤ maxLen) (hl : ¬ 100 < p.size) (hr : ∀ r, p.data.toList ≠ 47 :: r) :
    Calls Tryd.prog 8 #[.string p] w (SplitPost p w) := by
  unfold maxLen at hp
  have HF := Lib.hid (splitF_bare hl hr)
  have hl2 : ¬ (100 : Int) < (p.size : Int) := by omega
  by_cases h0 : p.size = 0
  · have hz : ((p.size : Int) == 0) = true := by rw [h0]; rfl
    clear hr h0
    go_enter Tryd.func8, Tryd.ntmps8
    go_wp2_with fail
    refine (newFault_any _ _ _).mono ?_
    rintro e w' ⟨rfl, hb'⟩
    have hlt' : w.heap.size < w'.heap.size := by have := hb'.size; simp at this; omega
    obtain ⟨_, g0, g1, f0, f1⟩ := (FBox.new w 0 0 29).below hb' (by simp)
    have hB : Below w.heap.size w w' := ((Below.refl _ _).alloc (Nat.le_refl _) _).trans (hb'.mono (by simp))
    clear hb'
    go_wp2
    refine bodyPost_ret (v := .tuple #[.slice none 0 0, .agg #[.int .i64 5, .int .i64 0]]) ?_ rfl (splitPost_fault HF.out (by decide) ?_)
    · simp [results, Tryd.results8, go_sem, g0, g1]
    · repeat (first | exact hB | refine Below.setCell ?_ (by simp) _ | refine Below.alloc ?_ (by simp; omega) _ | refine Below.drew ?_)
  · have hz : ((p.size : Int) == 0) = false := by rw [beq_eq_false_iff_ne]; omega
    have hpos : 0 < p.size := by omega
    have hc : ((p[0].toNat : Int) == 47) = false := by
      rw [beq_eq_false_iff_ne]; intro h
      have h1 : p[0] = 47 := UInt8.toNat_inj.1 (by have : p[0].toNat = 47 := by omega
                                                   rw [this]; rfl)
      have h2 := drop_get hpos
      rw [List.drop_zero, h1] at h2
      exact hr _ h2
    have hc2 : ((p[0].toNat : Int) != 47) = true := by rw [bne, hc]; rfl
    clear hr h0
    go_enter Tryd.func8, Tryd.ntmps8
    go_wp2_with fail
    refine (newFault_any _ _ _).mono ?_
    rintro e w' ⟨rfl, hb'⟩
    have hlt' : w.heap.size < w'.heap.size := by have := hb'.size; simp at this; omega
    obtain ⟨_, g0, g1, f0, f1⟩ := (FBox.new w 0 0 29).below hb' (by simp)
    have hB : Below w.heap.size w w' := ((Below.refl _ _).alloc (Nat.le_refl _) _).trans (hb'.mono (by simp))
    clear hb'
    go_wp2
    refine bodyPost_ret (v := .tuple #[.slice none 0 0, .agg #[.int .i64 5, .int .i64 0]]) ?_ rfl (splitPost_fault HF.out (by decide) ?_)
    · simp [results, Tryd.results8, go_sem, g0, g1]
    · repeat (first | exact hB | refine Below.setCell ?_ (by simp) _ | refine Below.alloc ?_ (by simp; omega) _ | refine Below.drew ?_)

set_option maxHeartbeats 400000 in
theorem refSplit_root (p : ByteArray) (w : World) (_hp : p.size ≤ maxLen) (hl : ¬ 100 < p.size) (hr : p.data.toList = [47]) :
    Calls Tryd.prog 8 #[.string p] w (SplitPost p w) := by
  unfold maxLen at _hp
  have HF := Lib.hid (show splitF p = (0, 0) ∧ splitL p = [] by
    have : splitF p = (0, 0) := by unfold splitF; rw [if_neg hl, hr]; rfl
    refine ⟨this, ?_⟩
    unfold splitL; rw [this, hr]; rfl)
  have hsz : p.size = 1 := by
    have h1 : p.data.toList.length = p.size := by simp
    rw [hr] at h1; simpa using h1.symm
  have hl2 : ¬ (100 : Int) < (p.size : Int) := by omega
  have hz : ((p.size : Int) == 0) = false := by rw [hsz]; rfl
  have hpos : 0 < p.size := by omega
  have hb0 : p[0] = 47 := by
    have h2 := drop_get hpos
    rw [List.drop_zero, hr] at h2
    injection h2 with h2; exact h2.symm
  have hc : ((p[0].toNat : Int) == 47) = true := by rw [hb0]; rfl
  have hc2 : ((p[0].toNat : Int) != 47) = false := by rw [bne, hc]; rfl
  have hq : (p.toList == [47]) = true := by rw [Lib.toList_data, hr]; rfl
  clear hr hb0 hsz
  go_enter Tryd.func8, Tryd.ntmps8
  go_wp2
  refine bodyPost_ret (v := .tuple #[.slice none 0 0, .agg #[.int .i64 0, .int .i64 0]]) ?_ rfl ⟨.slice none 0 0, by rw [HF.out.1], ?_, ?_, fun g hg => by cases hg⟩
  · simp [results, Tryd.results8, go_sem]
  · rw [HF.out.2]; exact ⟨none, 0, rfl, by simp, by simp, by simp, fun h => absurd h (by simp)⟩
  · repeat (first | exact Below.refl _ _ | refine Below.setCell ?_ (by simp) _ | refine Below.alloc ?_ (by simp) _ | refine Below.drew ?_)

set_option maxHeartbeats 1000000 in
theorem refSplit_comps (p : ByteArray) (r : List UInt8) (w : World) (hp : p.size ≤ maxLen) (hl : ¬ 100 < p.size) (hr : p.data.toList = 47 :: r) (hne : r ≠ []) :
    Calls Tryd.prog 8 #[.string p] w (SplitPost p w) := by
  unfold maxLen at hp
  have HF := Lib.hid (show splitF p = compFault (comps r) by unfold splitF; rw [if_neg hl, hr]; simp only [if_true, if_neg hne])
  have HL := Lib.hid (show (compFault (comps r)).1 = 0 → splitL p = comps r by
    intro h; unfold splitL; rw [HF.out, if_pos h, hr]; simp only [if_neg hne])
  have hsz : p.size = r.length + 1 := by
    have h1 : p.data.toList.length = p.size := by simp
    rw [hr] at h1; simpa using h1.symm
  have hl2 : ¬ (100 : Int) < (p.size : Int) := by omega
  have hz : ((p.size : Int) == 0) = false := by rw [beq_eq_false_iff_ne]; omega
  have hpos : 0 < p.size := by omega
  have hb0 : p[0] = 47 := by
    have h2 := drop_get hpos
    rw [List.drop_zero, hr] at h2
    injection h2 with h2; exact h2.symm
  have hc : ((p[0].toNat : Int) == 47) = true := by rw [hb0]; rfl
  have hc2 : ((p[0].toNat : Int) != 47) = false := by rw [bne, hc]; rfl
  have hq : (p.toList == [47]) = false := by
    rw [Lib.toList_data, hr, beq_eq_false_iff_ne]
    intro h; injection h with _ h; exact hne h
  have hdat : (p.extract 1 p.size).data.toList = r := by
    rw [Lib.extract_to_end, hr]; rfl
  have hS := fun W => splitAt_any (p.extract 1 p.size) W (by
    have h1 : (p.extract 1 p.size).data.toList.length = (p.extract 1 p.size).size := by simp
    rw [hdat] at h1; omega)
  rw [hdat] at hS
  have HS := Lib.hid hS
  have hp1 : 1 ≤ p.size := hpos
  clear hr hne hS hdat hb0 hsz
  go_enter Tryd.func8, Tryd.ntmps8
  go_wp2_with fail
  refine (HS.out _).mono ?_
  rintro e w1 ⟨v, rfl, hS1, b1, hvb⟩
  have HVB := Lib.hid hvb
  clear hvb
  have X1 := Lib.hid ((FBox.new w 0 0 29).below b1 (by simp))
  have hgt : w.heap.size < w1.heap.size := X1.out.lt
  have B1 : Below w.heap.size w w1 := ((Below.refl _ _).alloc (Nat.le_refl _) _).trans (b1.mono (by simp))
  clear b1
  generalize comps r = xs at *
  have H1 := Lib.hid hS1
  obtain ⟨a, c, rfl, hcap, hxl, hs, hx⟩ := hS1
  go_wp2
  go_loop [5] (fun i => ∃ k : Nat, k ≤ xs.length ∧ i = .int .i64 k ∧ Aside (∀ j, j < k → vname (xs.getD j ByteArray.empty) = true)) (fun i => xs.length - (intOf i).toNat)
  case atStart => exact ⟨0, Nat.zero_le _, rfl, fun j hj => absurd hj (Nat.not_lt_zero _)⟩
  case round =>
    obtain ⟨k, hk, rfl, A⟩ := hrel
    by_cases hlt : k < xs.length
    · obtain ⟨b, o, rfl, hb, hj⟩ := hx (by omega)
      have hcell : w1.cell? ⟨b, o + k, none⟩ = some (.string (xs.getD k ByteArray.empty)) := hj k hlt
      have hys : (xs.getD k ByteArray.empty).size ≤ maxLen := by
        rw [getD_eq hlt]; exact hs _ (List.getElem_mem hlt)
      clear hx hs hj
      generalize hy : xs.getD k ByteArray.empty = y at hcell hys
      have B : Aside (xs.getD k ByteArray.empty = y) := hy
      clear hy
      have hcall := fun W => validName_any y W hys
      clear hys
      cases hqv : vname y with
      | false =>
        rw [hqv] at hcall
        have Q : Aside (vname y = false) := hqv
        clear hqv
        go_wp2_with fail
        refine (hcall _).mono ?_
        rintro e w' ⟨rfl, rfl⟩
        go_wp2_with fail
        refine (newFault_any _ _ _).mono ?_
        rintro e w2 ⟨rfl, b2⟩
        obtain ⟨l2, g0, g1, f0, f1⟩ := X1.out.below b2 hgt
        have B2 : Below w.heap.size w w2 := B1.trans (b2.mono B1.size)
        clear b2
        go_wp2
        refine bodyPost_ret (v := .tuple #[.slice none 0 0, .agg #[.int .i64 12, .int .i64 k]]) ?_ rfl (splitPost_fault (HF.out.trans (compFault_bad hlt (by rw [B.out]; exact Q.out) A.out)) (by decide) ?_)
        · simp [results, Tryd.results8, go_sem, g0, g1]
        · repeat (first | exact B2 | refine Below.setCell ?_ (by simp) _ | refine Below.alloc ?_ (by simp; omega) _ | refine Below.drew ?_)
      | true =>
        rw [hqv] at hcall
        have Q : Aside (vname y = true) := hqv
        clear hqv
        go_wp2_with fail
        refine (hcall _).mono ?_
        rintro e w' ⟨rfl, rfl⟩
        go_wp2
        go_round
        case rel =>
          refine ⟨k + 1, by omega, by go_num, fun j hjk => ?_⟩
          by_cases e : j = k
          · subst e; rw [B.out]; exact Q.out
          · exact A.out j (by omega)
        case measure => simp [intOf]; omega
    · have hltz : ¬ (k : Int) < (xs.length : Int) := by omega
      have e : k = xs.length := by omega
      have A' : Aside (∀ j, j < xs.length → vname (xs.getD j ByteArray.empty) = true) := by rw [← e]; exact A
      clear A e hx hs
      by_cases h8 : 8 < xs.length
      · go_wp2_with fail
        refine (newFault_any _ _ _).mono ?_
        rintro e w2 ⟨rfl, b2⟩
        obtain ⟨l2, g0, g1, f0, f1⟩ := X1.out.below b2 hgt
        have B2 : Below w.heap.size w w2 := B1.trans (b2.mono B1.size)
        clear b2
        go_wp2
        refine bodyPost_ret (v := .tuple #[.slice none 0 0, .agg #[.int .i64 10, .int .i64 0]]) ?_ rfl (splitPost_fault (HF.out.trans (compFault_deep h8 A'.out)) (by decide) ?_)
        · simp [results, Tryd.results8, go_sem, g0, g1]
        · repeat (first | exact B2 | refine Below.setCell ?_ (by simp) _ | refine Below.alloc ?_ (by simp; omega) _ | refine Below.drew ?_)
      · have CF := Lib.hid (compFault_fine h8 A'.out)
        obtain ⟨l2, g0, g1, f0, f1⟩ := X1.out
        go_wp2
        refine bodyPost_ret (v := .tuple #[.slice a xs.length c, .agg #[.int .i64 0, .int .i64 0]]) ?_ rfl ⟨_, by rw [HF.out, CF.out], ?_, ?_, fun g hg => by have := HVB.out g hg; simp at this; omega⟩
        · simp [results, Tryd.results8, go_sem, g0, g1]
        · rw [HL.out (by rw [CF.out])]
          have hne : ∀ g, (Value.slice a xs.length c).ownBlock = some g → g ≠ w.heap.size := fun g hg => by
            have := HVB.out g hg
            simp at this; omega
          have h1 := (H1.out.set2 (p := ⟨w.heap.size, 0, none⟩) hne (.int .i64 0)).set2 (p := ⟨w.heap.size, 1, none⟩) hne (.int .i64 0)
          refine h1.more ?_
          simp
        · repeat (first | exact B1 | refine Below.setCell ?_ (by simp) _ | refine Below.alloc ?_ (by simp; omega) _ | refine Below.drew ?_)

theorem refSplit_any (p : ByteArray) (w : World) (hp : p.size ≤ maxLen) :
    Calls Tryd.prog 8 #[.string p] w (SplitPost p w) := by
  by_cases hl : 100 < p.size
  · exact refSplit_long p w hp hl
  · cases hd : p.data.toList with
    | nil => exact refSplit_bare p w hp hl (fun r h => by rw [hd] at h; cases h)
    | cons c r =>
      by_cases hc : c = 47
      · subst hc
        by_cases hr : r = []
        · subst hr; exact refSplit_root p w hp hl hd
        · exact refSplit_comps p r w hp hl hd hr
      · exact refSplit_bare p w hp hl (fun r' h => by rw [hd] at h; injection h with h; exact hc h)

end Go.Proofs.YtfealpehdjeckaaDoor
