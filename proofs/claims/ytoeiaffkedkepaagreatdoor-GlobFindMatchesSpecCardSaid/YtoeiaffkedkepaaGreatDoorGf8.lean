/- GlobFindMatchesSpec: for every tree and every pattern the law returns true.
   Condition: as each theorem states; this text: GlobLawFind, FsArg, GlobFindProof. -/
import Derived.Test.YtoeiaffkedkepaaGreatDoorGf5
import Derived.Test.YtoeiaffkedkepaaGreatDoorGf6
import Derived.Test.YtoeiaffkedkepaaGreatDoorGf7
import Derived.Deep.CutRange
import Derived.Deep.RegionWith
import Derived.IntWalk
import Derived.Test.YtoeiaffkedkepaaGreatDoorGf3
import Derived.Test.YtoeiaffkedkepaaGreatDoorCards
import Derived.Test.YtoeiaffkedkepaaGreatDoorTie
import Derived.ProofKit
import Derived.SizedLaws
import Derived.OpenShut
import Derived.ShutString
import Derived.ChangeMaps5
import Derived.Deep.DeepHandedRow
import Derived.Lay
import Derived.LaidMore
import Derived.SevenTiedAt

/- The law GlobFindMatchesSpec returns true at every tree and pattern. Conditions: the library's variable that bounds a search holds an int; the tree's cells lie in memory as they read; the pattern is of at most two to the 47th bytes. -/
namespace Go.Proofs.YtoeiaffkedkepaaGreatDoor
open Go.RowKit

theorem find_sample (b : Nat) (w : World) (gm : GM w) (h : Nods w w.heap.size (some ⟨b, 0, none⟩) 3 sampleT) :
    Calls Tryz.prog 5 #[.agg #[.slice (some ⟨b, 0, none⟩) sampleT.length 3], .string ⟨#[47, 42, 47, 102]⟩] w fun e w' => ∃ v, e = .returned (.tuple #[v, .agg #[.int .i64 0, .int .i64 0]]) ∧ Strs w' w'.heap.size v [⟨#[47, 97, 47, 102]⟩] ∧ Below w.heap.size w w' := by
  refine (find_any (some ⟨b, 0, none⟩) 3 sampleT ⟨#[47, 42, 47, 102]⟩ w gm h (by decide)).mono fun e w' hp => ?_
  have hF : findF sampleT ⟨#[47, 42, 47, 102]⟩ = (0, 0) := by
    unfold findF; rw [valT_sample, if_neg (by simp), if_neg (by decide)]; rfl
  rcases hp with ⟨h1, _⟩ | ⟨_, v, P, he, ha, hs, hb⟩
  · rw [hF] at h1; exact absurd rfl h1
  · rw [paths_sample] at ha
    have hP : P = [⟨#[47]⟩, ⟨#[47, 97]⟩, ⟨#[47, 97, 47, 102]⟩] := asc_unique ha.1 (by unfold Asc; simp [ltS, Op.bytesLess, Lib.toList_data]) ha.2
    subst hP
    have hk : ([⟨#[47]⟩, ⟨#[47, 97]⟩, ⟨#[47, 97, 47, 102]⟩] : List ByteArray).filter (keepP ⟨#[47, 42, 47, 102]⟩) = [⟨#[47, 97, 47, 102]⟩] := by decide +kernel
    rw [hk] at hs
    exact ⟨v, he, hs, hb⟩

theorem nonEmptyS_any (p : ByteArray) (w : World) (hp : p.size ≤ 100) :
    Calls Tryz.prog 12 #[.string p] w fun e w' => ∃ v, e = .returned v ∧ SSv w' w'.heap.size v (parts p.data.toList) ∧ Below w.heap.size w w' :=
  (nonEmpty_any p w hp).mono fun _ _ ⟨v, he, ho, hb⟩ => ⟨v, he, SSv.of_own ho, hb⟩
theorem keepComps_any (p x : ByteArray) (hp : p.size ≤ 100) (hx : x.size ≤ 100) (v u : Value) (w : World) (hv : SSv w w.heap.size v (parts p.data.toList)) (hu : SSv w w.heap.size u (parts x.data.toList)) :
    Calls Tryz.prog 11 #[v, u] w fun e w' => e = .returned (.bool (keepP p x)) ∧ ∃ n, w' = w.drewN n := by
  have h1 : p.data.toList.length = p.size := by simp
  have h2 : x.data.toList.length = x.size := by simp
  exact refComps_any v u _ _ w hv hu (by have := parts_len p.data.toList; omega) (by have := parts_len x.data.toList; omega) (fun y hy => by have := parts_size hy; omega) (fun y hy => by have := parts_size hy; omega)
theorem nodup_len : ∀ (P X : List ByteArray), P.Nodup → (∀ x ∈ P, x ∈ X) → P.length ≤ X.length
  | [], _, _, _ => Nat.zero_le _
  | x :: P, X, hn, h => by
    obtain ⟨A, B, rfl⟩ := List.append_of_mem (h x (by simp))
    have hn2 := List.nodup_cons.1 hn
    have := nodup_len P (A ++ B) hn2.2 (fun y hy => by
      have h1 := h y (by simp [hy])
      rw [List.mem_append, List.mem_cons] at h1
      rw [List.mem_append]
      rcases h1 with h1 | rfl | h1
      · exact .inl h1
      · exact absurd hy hn2.1
      · exact .inr h1)
    rw [List.length_append] at this
    rw [List.length_append, List.length_cons, List.length_cons]; omega
theorem FBox.dn {w : World} {n : Nat} {c i : Int} (h : FBox w n c i) (k : Nat) : FBox (w.drewN k) n c i := ⟨h.lt, h.c0, h.c1, h.f0, h.f1⟩
theorem take_filter {P : List ByteArray} {q : ByteArray → Bool} {i : Nat} (h : i < P.length) : (P.take (i + 1)).filter q = if q (P.getD i ByteArray.empty) = true then (P.take i).filter q ++ [P.getD i ByteArray.empty] else (P.take i).filter q := by
  rw [List.take_add_one, List.getElem?_eq_getElem h, List.filter_append, getD_eq h]
  by_cases e : q P[i] = true
  · rw [if_pos e]; simp [e]
  · rw [if_neg e]; simp [e]

set_option maxRecDepth 100000 in
set_option maxHeartbeats 3200000 in
theorem lawFind_tree (a : Option Addr) (c : Nat) (t : Tr) (p : ByteArray) (w : World) (gm : GM w) (hp : p.size < 140737488355328) (h : Nods w w.heap.size a c t) (h60 : ¬ (60 < p.size ∧ p.size ≤ 100)) (hq : (valT t).1 ≠ 0) :
    Calls Tryz.prog 3 #[.agg #[.slice a t.length c], .string p] w fun e w' => e = .returned (.bool true) ∧ Below w.heap.size w w' := by
  have C2 := Lib.hid (fun W (hb : Below w.heap.size w W) => vtree_any a c t W (h.up hb))
  have CS := Lib.hid (fun W => sample_any W)
  have CSF := Lib.hid (fun b W gm h => find_sample b W gm h)
  have GM0 := Lib.hid gm
  have T0 := Lib.hid (One.new w (.slice a t.length c) 24)
  have B0 := Lib.hid ((Below.refl w.heap.size w).alloc (Nat.le_refl _) (.cells #[.slice a t.length c] 24))
  have C0 := Lib.hid (fun W => starCount_any p W (by omega))
  unfold faultV at C2
  have hF : findF t p = valT t := by unfold findF; rw [if_pos hq]
  have C1 := Lib.hid (fun W (hb : Below w.heap.size w W) => (find_any a c t p W (gm.below hb) (h.up hb) (by unfold maxLen; omega)).mono (fun e w' hh => (show e = .returned (.tuple #[.slice none 0 0, .agg #[.int .i64 (valT t).1, .int .i64 (valT t).2]]) ∧ Below W.heap.size W w' from by
    rcases hh with ⟨_, h1⟩ | ⟨h0, _⟩
    · rw [hF] at h1; exact h1
    · rw [hF] at h0; exact absurd (by rw [h0]) hq)))
  have hq1 : ((valT t).1 != 0) = true := by simpa using hq
  have hq2 : ((valT t).1 == 0) = false := by simpa using hq
  clear hq hF gm h
  generalize (valT t).1 = q at *
  generalize (valT t).2 = r at *
  by_cases h60a : 60 < p.size
  · have h60b : (60 : Int) < (p.size : Int) := by omega
    have h60c : ¬ (p.size : Int) ≤ 100 := by omega
    clear h60
    go_enter Tryz.func3, Tryz.ntmps3
    go_wp2_with fail
    refine (C0.out _).mono ?_
    rintro e _ ⟨⟨n, rfl⟩, rfl⟩
    by_cases hn : 4 < n
    · have hnz : (4 : Int) < (n : Int) := by omega
      go_wp2
      go_ret
      exact ⟨rfl, B0.out⟩
    have hnz : ¬ (4 : Int) < (n : Int) := by omega
    go_wp2_with fail
    refine (C1.out _ B0.out).mono ?_
    rintro e w2 ⟨rfl, b2⟩
    have B2 := Lib.hid (B0.out.trans (b2.mono B0.out.size))
    have GM2 := Lib.hid (GM0.out.below B2.out)
    have T2 := Lib.hid (T0.out.below b2 T0.out.lt)
    have ht2 := T2.out.lt
    have BF3 := Lib.hid ((Below.refl w2.heap.size w2).alloc (Nat.le_refl _) (.cells #[.int .i64 q, .int .i64 r] 28))
    have F63 := Lib.hid (FBox.new w2 q r 28)
    have t3 := (T2.out.below BF3.out ht2).c0
    have tl3 := (T2.out.below BF3.out ht2).lt
    clear b2
    go_wp2_with fail
    refine (C2.out _ (B2.out.trans (BF3.out.mono B2.out.size))).mono ?_
    rintro e w4 ⟨rfl, b4⟩
    have BF4 := Lib.hid ((BF3.out.trans (b4.mono BF3.out.size)).alloc (by have := BF3.out.size; have := b4.size; omega) (.cells #[.int .i64 q, .int .i64 r] 28))
    have F64 := Lib.hid ((F63.out.below b4 F63.out.lt).alloc (.cells #[.int .i64 q, .int .i64 r] 28))
    have F74 := Lib.hid (FBox.new w4 q r 28)
    have hs4 := b4.size
    have hf63 := F63.out.lt
    clear b4 BF3 F63 t3 tl3
    have BF := BF4
    have F6 := F64
    have F7 := F74
    obtain ⟨ly, y0, y1, zf0, zf1⟩ := F74.out
    clear BF4 F64 F74
    go_wp2_with fail
    refine (CS.out _).mono ?_
    rintro e w5 ⟨sb, rfl, SN, b5⟩
    have BF5 := Lib.hid (BF.out.trans (b5.mono BF.out.size))
    have F65 := Lib.hid (F6.out.below b5 F6.out.lt)
    have F75 := Lib.hid (F7.out.below b5 F7.out.lt)
    clear b5 BF F6 F7
    go_wp2_with fail
    refine (CSF.out sb _ (GM2.out.below BF5.out) SN).mono ?_
    rintro e w6 ⟨v6, rfl, S6, b6⟩
    obtain ⟨v6a, v6c, rfl, _⟩ := S6.form (n := 1) rfl
    have hs6 := b6.size
    have BF6 := Lib.hid (BF5.out.trans (b6.mono BF5.out.size))
    have F66 := Lib.hid (F65.out.below b6 F65.out.lt)
    have F76 := Lib.hid (F75.out.below b6 F75.out.lt)
    have S7 := Lib.hid ((S6.alloc (Nat.le_refl _) (.cells #[.int .i64 0, .int .i64 0] 28)).alloc (by simp) (.cells #[.string ⟨#[47, 97, 47, 102]⟩] 9))
    have L7 := Lib.hid (strs_cell (B := ((w6.alloc (.cells #[.int .i64 0, .int .i64 0] 28)).alloc (.cells #[.string ⟨#[47, 97, 47, 102]⟩] 9)).heap.size) (g := w6.heap.size + 1) (y := ⟨#[47, 97, 47, 102]⟩) (new_cell (w := w6.alloc (.cells #[.int .i64 0, .int .i64 0] 28)) (cs := #[.string ⟨#[47, 97, 47, 102]⟩]) (t := 9) (r := (0, 0)) (by simp) rfl) (by simp) (by decide))
    have BF7 := Lib.hid ((BF6.out.alloc BF6.out.size (.cells #[.int .i64 0, .int .i64 0] 28)).alloc (by have := BF6.out.size; simp; omega) (.cells #[.string ⟨#[47, 97, 47, 102]⟩] 9))
    have F67 := Lib.hid ((F66.out.alloc (.cells #[.int .i64 0, .int .i64 0] 28)).alloc (.cells #[.string ⟨#[47, 97, 47, 102]⟩] 9))
    have F77 := Lib.hid ((F76.out.alloc (.cells #[.int .i64 0, .int .i64 0] 28)).alloc (.cells #[.string ⟨#[47, 97, 47, 102]⟩] 9))
    clear S6 b6 BF5 F65 F75 BF6 F66 F76 SN
    go_wp2_with fail
    refine (strsSame_any _ _ [⟨#[47, 97, 47, 102]⟩] _ _ _ S7.out L7.out).mono ?_
    rintro e _ ⟨rfl, q7, rfl⟩
    have BF := Lib.hid (below_drewN BF7.out q7)
    have F6 := Lib.hid (F67.out.dn q7)
    have F7 := Lib.hid (F77.out.dn q7)
    clear BF7 F67 F77 S7 L7
    generalize ((w6.alloc (.cells #[.int .i64 0, .int .i64 0] 28)).alloc (.cells #[.string ⟨#[47, 97, 47, 102]⟩] 9)).drewN q7 = w8 at *
    obtain ⟨l6, a60, a61, _, _⟩ := F6.out
    obtain ⟨l7, a70, a71, _, _⟩ := F7.out
    go_wp2
    go_ret
    exact ⟨ret_bool (by simp), B2.out.trans (BF.out.mono B2.out.size)⟩
  · have h60b : ¬ (60 : Int) < (p.size : Int) := by omega
    clear h60
    go_enter Tryz.func3, Tryz.ntmps3
    go_wp2_with fail
    refine (C0.out _).mono ?_
    rintro e _ ⟨⟨n, rfl⟩, rfl⟩
    by_cases hn : 4 < n
    · have hnz : (4 : Int) < (n : Int) := by omega
      go_wp2
      go_ret
      exact ⟨rfl, B0.out⟩
    have hnz : ¬ (4 : Int) < (n : Int) := by omega
    go_wp2_with fail
    refine (C1.out _ B0.out).mono ?_
    rintro e w2 ⟨rfl, b2⟩
    have B2 := Lib.hid (B0.out.trans (b2.mono B0.out.size))
    have GM2 := Lib.hid (GM0.out.below B2.out)
    have T2 := Lib.hid (T0.out.below b2 T0.out.lt)
    have ht2 := T2.out.lt
    have BF3 := Lib.hid ((Below.refl w2.heap.size w2).alloc (Nat.le_refl _) (.cells #[.int .i64 q, .int .i64 r] 28))
    have F63 := Lib.hid (FBox.new w2 q r 28)
    have t3 := (T2.out.below BF3.out ht2).c0
    have tl3 := (T2.out.below BF3.out ht2).lt
    clear b2
    go_wp2_with fail
    refine (C2.out _ (B2.out.trans (BF3.out.mono B2.out.size))).mono ?_
    rintro e w4 ⟨rfl, b4⟩
    have BF4 := Lib.hid ((BF3.out.trans (b4.mono BF3.out.size)).alloc (by have := BF3.out.size; have := b4.size; omega) (.cells #[.int .i64 q, .int .i64 r] 28))
    have F64 := Lib.hid ((F63.out.below b4 F63.out.lt).alloc (.cells #[.int .i64 q, .int .i64 r] 28))
    have F74 := Lib.hid (FBox.new w4 q r 28)
    have hs4 := b4.size
    have hf63 := F63.out.lt
    clear b4 BF3 F63 t3 tl3
    have BF := BF4
    have F6 := F64
    have F7 := F74
    obtain ⟨ly, y0, y1, zf0, zf1⟩ := F74.out
    clear BF4 F64 F74
    go_wp2_with fail
    refine (CS.out _).mono ?_
    rintro e w5 ⟨sb, rfl, SN, b5⟩
    have BF5 := Lib.hid (BF.out.trans (b5.mono BF.out.size))
    have F65 := Lib.hid (F6.out.below b5 F6.out.lt)
    have F75 := Lib.hid (F7.out.below b5 F7.out.lt)
    clear b5 BF F6 F7
    go_wp2_with fail
    refine (CSF.out sb _ (GM2.out.below BF5.out) SN).mono ?_
    rintro e w6 ⟨v6, rfl, S6, b6⟩
    obtain ⟨v6a, v6c, rfl, _⟩ := S6.form (n := 1) rfl
    have hs6 := b6.size
    have BF6 := Lib.hid (BF5.out.trans (b6.mono BF5.out.size))
    have F66 := Lib.hid (F65.out.below b6 F65.out.lt)
    have F76 := Lib.hid (F75.out.below b6 F75.out.lt)
    have S7 := Lib.hid ((S6.alloc (Nat.le_refl _) (.cells #[.int .i64 0, .int .i64 0] 28)).alloc (by simp) (.cells #[.string ⟨#[47, 97, 47, 102]⟩] 9))
    have L7 := Lib.hid (strs_cell (B := ((w6.alloc (.cells #[.int .i64 0, .int .i64 0] 28)).alloc (.cells #[.string ⟨#[47, 97, 47, 102]⟩] 9)).heap.size) (g := w6.heap.size + 1) (y := ⟨#[47, 97, 47, 102]⟩) (new_cell (w := w6.alloc (.cells #[.int .i64 0, .int .i64 0] 28)) (cs := #[.string ⟨#[47, 97, 47, 102]⟩]) (t := 9) (r := (0, 0)) (by simp) rfl) (by simp) (by decide))
    have BF7 := Lib.hid ((BF6.out.alloc BF6.out.size (.cells #[.int .i64 0, .int .i64 0] 28)).alloc (by have := BF6.out.size; simp; omega) (.cells #[.string ⟨#[47, 97, 47, 102]⟩] 9))
    have F67 := Lib.hid ((F66.out.alloc (.cells #[.int .i64 0, .int .i64 0] 28)).alloc (.cells #[.string ⟨#[47, 97, 47, 102]⟩] 9))
    have F77 := Lib.hid ((F76.out.alloc (.cells #[.int .i64 0, .int .i64 0] 28)).alloc (.cells #[.string ⟨#[47, 97, 47, 102]⟩] 9))
    clear S6 b6 BF5 F65 F75 BF6 F66 F76 SN
    go_wp2_with fail
    refine (strsSame_any _ _ [⟨#[47, 97, 47, 102]⟩] _ _ _ S7.out L7.out).mono ?_
    rintro e _ ⟨rfl, q7, rfl⟩
    have BF := Lib.hid (below_drewN BF7.out q7)
    have F6 := Lib.hid (F67.out.dn q7)
    have F7 := Lib.hid (F77.out.dn q7)
    clear BF7 F67 F77 S7 L7
    generalize ((w6.alloc (.cells #[.int .i64 0, .int .i64 0] 28)).alloc (.cells #[.string ⟨#[47, 97, 47, 102]⟩] 9)).drewN q7 = w8 at *
    obtain ⟨l6, a60, a61, _, _⟩ := F6.out
    obtain ⟨l7, a70, a71, _, _⟩ := F7.out
    go_wp2
    go_ret
    exact ⟨ret_bool (by simp), B2.out.trans (BF.out.mono B2.out.size)⟩

set_option maxRecDepth 100000 in
set_option maxHeartbeats 3200000 in
theorem lawFind_long (a : Option Addr) (c : Nat) (t : Tr) (p : ByteArray) (w : World) (gm : GM w) (hp : p.size < 140737488355328) (h : Nods w w.heap.size a c t) (h60 : ¬ (60 < p.size ∧ p.size ≤ 100)) (hq : (valT t).1 = 0) (hl : 100 < p.size) :
    Calls Tryz.prog 3 #[.agg #[.slice a t.length c], .string p] w fun e w' => e = .returned (.bool true) ∧ Below w.heap.size w w' := by
  have C2 := Lib.hid (fun W (hb : Below w.heap.size w W) => vtree_any a c t W (h.up hb))
  have CS := Lib.hid (fun W => sample_any W)
  have CSF := Lib.hid (fun b W gm h => find_sample b W gm h)
  have GM0 := Lib.hid gm
  have T0 := Lib.hid (One.new w (.slice a t.length c) 24)
  have B0 := Lib.hid ((Below.refl w.heap.size w).alloc (Nat.le_refl _) (.cells #[.slice a t.length c] 24))
  have C0 := Lib.hid (fun W => starCount_any p W (by omega))
  unfold faultV at C2
  have hz := valT_zero hq
  have hF : findF t p = (2, -1) := by unfold findF; rw [if_neg (by rw [hq]; simp), if_pos hl]
  have C1 := Lib.hid (fun W (hb : Below w.heap.size w W) => (find_any a c t p W (gm.below hb) (h.up hb) (by unfold maxLen; omega)).mono (fun e w' hh => (show e = .returned (.tuple #[.slice none 0 0, .agg #[.int .i64 2, .int .i64 (-1)]]) ∧ Below W.heap.size W w' from by
    rcases hh with ⟨_, h1⟩ | ⟨h0, _⟩
    · rw [hF] at h1; exact h1
    · rw [hF] at h0; cases h0)))
  rw [hz] at C2
  simp only at C2
  have h60b : (60 : Int) < (p.size : Int) := by omega
  have h60c : ¬ (p.size : Int) ≤ 100 := by omega
  have h100 : (100 : Int) < (p.size : Int) := by omega
  clear hq hF gm h hz h60
  go_enter Tryz.func3, Tryz.ntmps3
  go_wp2_with fail
  refine (C0.out _).mono ?_
  rintro e _ ⟨⟨n, rfl⟩, rfl⟩
  by_cases hn : 4 < n
  · have hnz : (4 : Int) < (n : Int) := by omega
    go_wp2
    go_ret
    exact ⟨rfl, B0.out⟩
  have hnz : ¬ (4 : Int) < (n : Int) := by omega
  go_wp2_with fail
  refine (C1.out _ B0.out).mono ?_
  rintro e w2 ⟨rfl, b2⟩
  have B2 := Lib.hid (B0.out.trans (b2.mono B0.out.size))
  have GM2 := Lib.hid (GM0.out.below B2.out)
  have T2 := Lib.hid (T0.out.below b2 T0.out.lt)
  have ht2 := T2.out.lt
  have BF3 := Lib.hid ((Below.refl w2.heap.size w2).alloc (Nat.le_refl _) (.cells #[.int .i64 2, .int .i64 (-1)] 28))
  have F63 := Lib.hid (FBox.new w2 2 (-1) 28)
  have t3 := (T2.out.below BF3.out ht2).c0
  have tl3 := (T2.out.below BF3.out ht2).lt
  clear b2
  go_wp2_with fail
  refine (C2.out _ (B2.out.trans (BF3.out.mono B2.out.size))).mono ?_
  rintro e w4 ⟨rfl, b4⟩
  have BF4 := Lib.hid ((BF3.out.trans (b4.mono BF3.out.size)).alloc (by have := BF3.out.size; have := b4.size; omega) (.cells #[.int .i64 0, .int .i64 0] 28))
  have F64 := Lib.hid ((F63.out.below b4 F63.out.lt).alloc (.cells #[.int .i64 0, .int .i64 0] 28))
  have F74 := Lib.hid (FBox.new w4 0 0 28)
  have hs4 := b4.size
  have hf63 := F63.out.lt
  clear b4 BF3 F63 t3 tl3
  go_wp2_with fail
  refine (newFault_any _ _ _).mono ?_
  rintro e w9 ⟨rfl, b9⟩
  have BF9 := BF4.out.trans (b9.mono BF4.out.size)
  have F69 := F64.out.below b9 F64.out.lt
  have F79 := F74.out.below b9 F74.out.lt
  obtain ⟨ly, y0, y1, zf0, zf1⟩ := F79
  have hn7 : w2.heap.size ≠ w4.heap.size := by omega
  have hn8 : w2.heap.size ≤ w4.heap.size := by omega
  have BF := Lib.hid ((BF9.setCell (p := ⟨w4.heap.size, 0, none⟩) (by simp; omega) (.int .i64 2)).setCell (p := ⟨w4.heap.size, 1, none⟩) (by simp; omega) (.int .i64 (-1)))
  have F6 := Lib.hid ((F69.far (p := ⟨w4.heap.size, 0, none⟩) (by simp; omega) (.int .i64 2)).far (p := ⟨w4.heap.size, 1, none⟩) (by simp; omega) (.int .i64 (-1)))
  have F7 := Lib.hid ((FBox.mk ly y0 y1 zf0 zf1).put 2 (-1))
  clear b9 BF9 F69 BF4 F64 F74
  generalize w4.heap.size = n7 at *
  go_wp2_with fail
  clear y0 y1 zf0 zf1 ly
  refine (CS.out _).mono ?_
  rintro e w5 ⟨sb, rfl, SN, b5⟩
  have BF5 := Lib.hid (BF.out.trans (b5.mono BF.out.size))
  have F65 := Lib.hid (F6.out.below b5 F6.out.lt)
  have F75 := Lib.hid (F7.out.below b5 F7.out.lt)
  clear b5 BF F6 F7
  go_wp2_with fail
  refine (CSF.out sb _ (GM2.out.below BF5.out) SN).mono ?_
  rintro e w6 ⟨v6, rfl, S6, b6⟩
  obtain ⟨v6a, v6c, rfl, _⟩ := S6.form (n := 1) rfl
  have hs6 := b6.size
  have BF6 := Lib.hid (BF5.out.trans (b6.mono BF5.out.size))
  have F66 := Lib.hid (F65.out.below b6 F65.out.lt)
  have F76 := Lib.hid (F75.out.below b6 F75.out.lt)
  have S7 := Lib.hid ((S6.alloc (Nat.le_refl _) (.cells #[.int .i64 0, .int .i64 0] 28)).alloc (by simp) (.cells #[.string ⟨#[47, 97, 47, 102]⟩] 9))
  have L7 := Lib.hid (strs_cell (B := ((w6.alloc (.cells #[.int .i64 0, .int .i64 0] 28)).alloc (.cells #[.string ⟨#[47, 97, 47, 102]⟩] 9)).heap.size) (g := w6.heap.size + 1) (y := ⟨#[47, 97, 47, 102]⟩) (new_cell (w := w6.alloc (.cells #[.int .i64 0, .int .i64 0] 28)) (cs := #[.string ⟨#[47, 97, 47, 102]⟩]) (t := 9) (r := (0, 0)) (by simp) rfl) (by simp) (by decide))
  have BF7 := Lib.hid ((BF6.out.alloc BF6.out.size (.cells #[.int .i64 0, .int .i64 0] 28)).alloc (by have := BF6.out.size; simp; omega) (.cells #[.string ⟨#[47, 97, 47, 102]⟩] 9))
  have F67 := Lib.hid ((F66.out.alloc (.cells #[.int .i64 0, .int .i64 0] 28)).alloc (.cells #[.string ⟨#[47, 97, 47, 102]⟩] 9))
  have F77 := Lib.hid ((F76.out.alloc (.cells #[.int .i64 0, .int .i64 0] 28)).alloc (.cells #[.string ⟨#[47, 97, 47, 102]⟩] 9))
  clear S6 b6 BF5 F65 F75 BF6 F66 F76 SN
  go_wp2_with fail
  refine (strsSame_any _ _ [⟨#[47, 97, 47, 102]⟩] _ _ _ S7.out L7.out).mono ?_
  rintro e _ ⟨rfl, q7, rfl⟩
  have BF := Lib.hid (below_drewN BF7.out q7)
  have F6 := Lib.hid (F67.out.dn q7)
  have F7 := Lib.hid (F77.out.dn q7)
  clear BF7 F67 F77 S7 L7
  generalize ((w6.alloc (.cells #[.int .i64 0, .int .i64 0] 28)).alloc (.cells #[.string ⟨#[47, 97, 47, 102]⟩] 9)).drewN q7 = w8 at *
  obtain ⟨l6, a60, a61, _, _⟩ := F6.out
  obtain ⟨l7, a70, a71, _, _⟩ := F7.out
  go_wp2
  go_ret
  exact ⟨ret_bool (by simp), B2.out.trans (BF.out.mono B2.out.size)⟩

set_option maxRecDepth 100000 in
set_option maxHeartbeats 3200000 in
theorem lawFind_bare (a : Option Addr) (c : Nat) (t : Tr) (p : ByteArray) (w : World) (gm : GM w) (hp : p.size < 140737488355328) (h : Nods w w.heap.size a c t) (h60 : ¬ (60 < p.size ∧ p.size ≤ 100)) (hq : (valT t).1 = 0) (hl : ¬ 100 < p.size) (hs : Lib.hasPrefix p.data.toList [47] = false) :
    Calls Tryz.prog 3 #[.agg #[.slice a t.length c], .string p] w fun e w' => e = .returned (.bool true) ∧ Below w.heap.size w w' := by
  have C2 := Lib.hid (fun W (hb : Below w.heap.size w W) => vtree_any a c t W (h.up hb))
  have CS := Lib.hid (fun W => sample_any W)
  have CSF := Lib.hid (fun b W gm h => find_sample b W gm h)
  have GM0 := Lib.hid gm
  have T0 := Lib.hid (One.new w (.slice a t.length c) 24)
  have B0 := Lib.hid ((Below.refl w.heap.size w).alloc (Nat.le_refl _) (.cells #[.slice a t.length c] 24))
  have C0 := Lib.hid (fun W => starCount_any p W (by omega))
  unfold faultV at C2
  have hz := valT_zero hq
  have hF : findF t p = (5, -1) := by unfold findF; rw [if_neg (by rw [hq]; simp), if_neg hl, hs]; rfl
  have C1 := Lib.hid (fun W (hb : Below w.heap.size w W) => (find_any a c t p W (gm.below hb) (h.up hb) (by unfold maxLen; omega)).mono (fun e w' hh => (show e = .returned (.tuple #[.slice none 0 0, .agg #[.int .i64 5, .int .i64 (-1)]]) ∧ Below W.heap.size W w' from by
    rcases hh with ⟨_, h1⟩ | ⟨h0, _⟩
    · rw [hF] at h1; exact h1
    · rw [hF] at h0; cases h0)))
  rw [hz] at C2
  simp only at C2
  have h60b : ¬ (60 : Int) < (p.size : Int) := by omega
  have h100 : ¬ (100 : Int) < (p.size : Int) := by omega
  clear hq hF gm h hz h60
  cases hpl : p.data.toList with
  | nil =>
    obtain rfl : p = ⟨#[]⟩ := empty_of hpl
    clear hs hpl
    go_enter Tryz.func3, Tryz.ntmps3
    go_wp2_with fail
    refine (C0.out _).mono ?_
    rintro e _ ⟨⟨n, rfl⟩, rfl⟩
    by_cases hn : 4 < n
    · have hnz : (4 : Int) < (n : Int) := by omega
      go_wp2
      go_ret
      exact ⟨rfl, B0.out⟩
    have hnz : ¬ (4 : Int) < (n : Int) := by omega
    go_wp2_with fail
    refine (C1.out _ B0.out).mono ?_
    rintro e w2 ⟨rfl, b2⟩
    have B2 := Lib.hid (B0.out.trans (b2.mono B0.out.size))
    have GM2 := Lib.hid (GM0.out.below B2.out)
    have T2 := Lib.hid (T0.out.below b2 T0.out.lt)
    have ht2 := T2.out.lt
    have BF3 := Lib.hid ((Below.refl w2.heap.size w2).alloc (Nat.le_refl _) (.cells #[.int .i64 5, .int .i64 (-1)] 28))
    have F63 := Lib.hid (FBox.new w2 5 (-1) 28)
    have t3 := (T2.out.below BF3.out ht2).c0
    have tl3 := (T2.out.below BF3.out ht2).lt
    clear b2
    go_wp2_with fail
    refine (C2.out _ (B2.out.trans (BF3.out.mono B2.out.size))).mono ?_
    rintro e w4 ⟨rfl, b4⟩
    have BF4 := Lib.hid ((BF3.out.trans (b4.mono BF3.out.size)).alloc (by have := BF3.out.size; have := b4.size; omega) (.cells #[.int .i64 0, .int .i64 0] 28))
    have F64 := Lib.hid ((F63.out.below b4 F63.out.lt).alloc (.cells #[.int .i64 0, .int .i64 0] 28))
    have F74 := Lib.hid (FBox.new w4 0 0 28)
    have hs4 := b4.size
    have hf63 := F63.out.lt
    clear b4 BF3 F63 t3 tl3
    go_wp2_with fail
    refine (newFault_any _ _ _).mono ?_
    rintro e w9 ⟨rfl, b9⟩
    have BF9 := BF4.out.trans (b9.mono BF4.out.size)
    have F69 := F64.out.below b9 F64.out.lt
    have F79 := F74.out.below b9 F74.out.lt
    obtain ⟨ly, y0, y1, zf0, zf1⟩ := F79
    have hn7 : w2.heap.size ≠ w4.heap.size := by omega
    have hn8 : w2.heap.size ≤ w4.heap.size := by omega
    have BF := Lib.hid ((BF9.setCell (p := ⟨w4.heap.size, 0, none⟩) (by simp; omega) (.int .i64 5)).setCell (p := ⟨w4.heap.size, 1, none⟩) (by simp; omega) (.int .i64 (-1)))
    have F6 := Lib.hid ((F69.far (p := ⟨w4.heap.size, 0, none⟩) (by simp; omega) (.int .i64 5)).far (p := ⟨w4.heap.size, 1, none⟩) (by simp; omega) (.int .i64 (-1)))
    have F7 := Lib.hid ((FBox.mk ly y0 y1 zf0 zf1).put 5 (-1))
    clear b9 BF9 F69 BF4 F64 F74
    generalize w4.heap.size = n7 at *
    go_wp2_with fail
    clear y0 y1 zf0 zf1 ly
    refine (CS.out _).mono ?_
    rintro e w5 ⟨sb, rfl, SN, b5⟩
    have BF5 := Lib.hid (BF.out.trans (b5.mono BF.out.size))
    have F65 := Lib.hid (F6.out.below b5 F6.out.lt)
    have F75 := Lib.hid (F7.out.below b5 F7.out.lt)
    clear b5 BF F6 F7
    go_wp2_with fail
    refine (CSF.out sb _ (GM2.out.below BF5.out) SN).mono ?_
    rintro e w6 ⟨v6, rfl, S6, b6⟩
    obtain ⟨v6a, v6c, rfl, _⟩ := S6.form (n := 1) rfl
    have hs6 := b6.size
    have BF6 := Lib.hid (BF5.out.trans (b6.mono BF5.out.size))
    have F66 := Lib.hid (F65.out.below b6 F65.out.lt)
    have F76 := Lib.hid (F75.out.below b6 F75.out.lt)
    have S7 := Lib.hid ((S6.alloc (Nat.le_refl _) (.cells #[.int .i64 0, .int .i64 0] 28)).alloc (by simp) (.cells #[.string ⟨#[47, 97, 47, 102]⟩] 9))
    have L7 := Lib.hid (strs_cell (B := ((w6.alloc (.cells #[.int .i64 0, .int .i64 0] 28)).alloc (.cells #[.string ⟨#[47, 97, 47, 102]⟩] 9)).heap.size) (g := w6.heap.size + 1) (y := ⟨#[47, 97, 47, 102]⟩) (new_cell (w := w6.alloc (.cells #[.int .i64 0, .int .i64 0] 28)) (cs := #[.string ⟨#[47, 97, 47, 102]⟩]) (t := 9) (r := (0, 0)) (by simp) rfl) (by simp) (by decide))
    have BF7 := Lib.hid ((BF6.out.alloc BF6.out.size (.cells #[.int .i64 0, .int .i64 0] 28)).alloc (by have := BF6.out.size; simp; omega) (.cells #[.string ⟨#[47, 97, 47, 102]⟩] 9))
    have F67 := Lib.hid ((F66.out.alloc (.cells #[.int .i64 0, .int .i64 0] 28)).alloc (.cells #[.string ⟨#[47, 97, 47, 102]⟩] 9))
    have F77 := Lib.hid ((F76.out.alloc (.cells #[.int .i64 0, .int .i64 0] 28)).alloc (.cells #[.string ⟨#[47, 97, 47, 102]⟩] 9))
    clear S6 b6 BF5 F65 F75 BF6 F66 F76 SN
    go_wp2_with fail
    refine (strsSame_any _ _ [⟨#[47, 97, 47, 102]⟩] _ _ _ S7.out L7.out).mono ?_
    rintro e _ ⟨rfl, q7, rfl⟩
    have BF := Lib.hid (below_drewN BF7.out q7)
    have F6 := Lib.hid (F67.out.dn q7)
    have F7 := Lib.hid (F77.out.dn q7)
    clear BF7 F67 F77 S7 L7
    generalize ((w6.alloc (.cells #[.int .i64 0, .int .i64 0] 28)).alloc (.cells #[.string ⟨#[47, 97, 47, 102]⟩] 9)).drewN q7 = w8 at *
    obtain ⟨l6, a60, a61, _, _⟩ := F6.out
    obtain ⟨l7, a70, a71, _, _⟩ := F7.out
    go_wp2
    go_ret
    exact ⟨ret_bool (by simp), B2.out.trans (BF.out.mono B2.out.size)⟩
  | cons d r =>
    have hne := notEmpty hpl
    obtain ⟨hp0, hpd⟩ := first_of hpl
    have hd : d ≠ 47 := fun e => by
      have := (hasSlash p.data.toList).2 ⟨r, by rw [hpl, e]⟩
      rw [this] at hs; cases hs
    have hd2 : ((p[0].toNat : Int) == 47) = false := by
      rw [beq_eq_false_iff_ne]; intro e; apply hd
      rw [← hpd hp0]; apply UInt8.toNat_inj.1; show p[0].toNat = 47; omega
    have hd3 : ((p[0].toNat : Int) != 47) = true := by rw [bne, hd2]; rfl
    clear hs hpl hpd hd
    go_enter Tryz.func3, Tryz.ntmps3
    go_wp2_with fail
    refine (C0.out _).mono ?_
    rintro e _ ⟨⟨n, rfl⟩, rfl⟩
    by_cases hn : 4 < n
    · have hnz : (4 : Int) < (n : Int) := by omega
      go_wp2
      go_ret
      exact ⟨rfl, B0.out⟩
    have hnz : ¬ (4 : Int) < (n : Int) := by omega
    go_wp2_with fail
    refine (C1.out _ B0.out).mono ?_
    rintro e w2 ⟨rfl, b2⟩
    have B2 := Lib.hid (B0.out.trans (b2.mono B0.out.size))
    have GM2 := Lib.hid (GM0.out.below B2.out)
    have T2 := Lib.hid (T0.out.below b2 T0.out.lt)
    have ht2 := T2.out.lt
    have BF3 := Lib.hid ((Below.refl w2.heap.size w2).alloc (Nat.le_refl _) (.cells #[.int .i64 5, .int .i64 (-1)] 28))
    have F63 := Lib.hid (FBox.new w2 5 (-1) 28)
    have t3 := (T2.out.below BF3.out ht2).c0
    have tl3 := (T2.out.below BF3.out ht2).lt
    clear b2
    go_wp2_with fail
    refine (C2.out _ (B2.out.trans (BF3.out.mono B2.out.size))).mono ?_
    rintro e w4 ⟨rfl, b4⟩
    have BF4 := Lib.hid ((BF3.out.trans (b4.mono BF3.out.size)).alloc (by have := BF3.out.size; have := b4.size; omega) (.cells #[.int .i64 0, .int .i64 0] 28))
    have F64 := Lib.hid ((F63.out.below b4 F63.out.lt).alloc (.cells #[.int .i64 0, .int .i64 0] 28))
    have F74 := Lib.hid (FBox.new w4 0 0 28)
    have hs4 := b4.size
    have hf63 := F63.out.lt
    clear b4 BF3 F63 t3 tl3
    go_wp2_with fail
    refine (newFault_any _ _ _).mono ?_
    rintro e w9 ⟨rfl, b9⟩
    have BF9 := BF4.out.trans (b9.mono BF4.out.size)
    have F69 := F64.out.below b9 F64.out.lt
    have F79 := F74.out.below b9 F74.out.lt
    obtain ⟨ly, y0, y1, zf0, zf1⟩ := F79
    have hn7 : w2.heap.size ≠ w4.heap.size := by omega
    have hn8 : w2.heap.size ≤ w4.heap.size := by omega
    have BF := Lib.hid ((BF9.setCell (p := ⟨w4.heap.size, 0, none⟩) (by simp; omega) (.int .i64 5)).setCell (p := ⟨w4.heap.size, 1, none⟩) (by simp; omega) (.int .i64 (-1)))
    have F6 := Lib.hid ((F69.far (p := ⟨w4.heap.size, 0, none⟩) (by simp; omega) (.int .i64 5)).far (p := ⟨w4.heap.size, 1, none⟩) (by simp; omega) (.int .i64 (-1)))
    have F7 := Lib.hid ((FBox.mk ly y0 y1 zf0 zf1).put 5 (-1))
    clear b9 BF9 F69 BF4 F64 F74
    generalize w4.heap.size = n7 at *
    go_wp2_with fail
    clear y0 y1 zf0 zf1 ly
    refine (CS.out _).mono ?_
    rintro e w5 ⟨sb, rfl, SN, b5⟩
    have BF5 := Lib.hid (BF.out.trans (b5.mono BF.out.size))
    have F65 := Lib.hid (F6.out.below b5 F6.out.lt)
    have F75 := Lib.hid (F7.out.below b5 F7.out.lt)
    clear b5 BF F6 F7
    go_wp2_with fail
    refine (CSF.out sb _ (GM2.out.below BF5.out) SN).mono ?_
    rintro e w6 ⟨v6, rfl, S6, b6⟩
    obtain ⟨v6a, v6c, rfl, _⟩ := S6.form (n := 1) rfl
    have hs6 := b6.size
    have BF6 := Lib.hid (BF5.out.trans (b6.mono BF5.out.size))
    have F66 := Lib.hid (F65.out.below b6 F65.out.lt)
    have F76 := Lib.hid (F75.out.below b6 F75.out.lt)
    have S7 := Lib.hid ((S6.alloc (Nat.le_refl _) (.cells #[.int .i64 0, .int .i64 0] 28)).alloc (by simp) (.cells #[.string ⟨#[47, 97, 47, 102]⟩] 9))
    have L7 := Lib.hid (strs_cell (B := ((w6.alloc (.cells #[.int .i64 0, .int .i64 0] 28)).alloc (.cells #[.string ⟨#[47, 97, 47, 102]⟩] 9)).heap.size) (g := w6.heap.size + 1) (y := ⟨#[47, 97, 47, 102]⟩) (new_cell (w := w6.alloc (.cells #[.int .i64 0, .int .i64 0] 28)) (cs := #[.string ⟨#[47, 97, 47, 102]⟩]) (t := 9) (r := (0, 0)) (by simp) rfl) (by simp) (by decide))
    have BF7 := Lib.hid ((BF6.out.alloc BF6.out.size (.cells #[.int .i64 0, .int .i64 0] 28)).alloc (by have := BF6.out.size; simp; omega) (.cells #[.string ⟨#[47, 97, 47, 102]⟩] 9))
    have F67 := Lib.hid ((F66.out.alloc (.cells #[.int .i64 0, .int .i64 0] 28)).alloc (.cells #[.string ⟨#[47, 97, 47, 102]⟩] 9))
    have F77 := Lib.hid ((F76.out.alloc (.cells #[.int .i64 0, .int .i64 0] 28)).alloc (.cells #[.string ⟨#[47, 97, 47, 102]⟩] 9))
    clear S6 b6 BF5 F65 F75 BF6 F66 F76 SN
    go_wp2_with fail
    refine (strsSame_any _ _ [⟨#[47, 97, 47, 102]⟩] _ _ _ S7.out L7.out).mono ?_
    rintro e _ ⟨rfl, q7, rfl⟩
    have BF := Lib.hid (below_drewN BF7.out q7)
    have F6 := Lib.hid (F67.out.dn q7)
    have F7 := Lib.hid (F77.out.dn q7)
    clear BF7 F67 F77 S7 L7
    generalize ((w6.alloc (.cells #[.int .i64 0, .int .i64 0] 28)).alloc (.cells #[.string ⟨#[47, 97, 47, 102]⟩] 9)).drewN q7 = w8 at *
    obtain ⟨l6, a60, a61, _, _⟩ := F6.out
    obtain ⟨l7, a70, a71, _, _⟩ := F7.out
    go_wp2
    go_ret
    exact ⟨ret_bool (by simp), B2.out.trans (BF.out.mono B2.out.size)⟩

set_option maxRecDepth 100000 in
set_option maxHeartbeats 6400000 in
theorem lawFind_good (a : Option Addr) (c : Nat) (t : Tr) (p : ByteArray) (w : World) (gm : GM w) (hp : p.size < 140737488355328) (h : Nods w w.heap.size a c t) (h60 : ¬ (60 < p.size ∧ p.size ≤ 100)) (hq : (valT t).1 = 0) (hl : ¬ 100 < p.size) (hs : Lib.hasPrefix p.data.toList [47] = true) :
    Calls Tryz.prog 3 #[.agg #[.slice a t.length c], .string p] w fun e w' => e = .returned (.bool true) ∧ Below w.heap.size w w' := by
  have C2 := Lib.hid (fun W (hb : Below w.heap.size w W) => vtree_any a c t W (h.up hb))
  have CS := Lib.hid (fun W => sample_any W)
  have CSF := Lib.hid (fun b W gm h => find_sample b W gm h)
  have GM0 := Lib.hid gm
  have T0 := Lib.hid (One.new w (.slice a t.length c) 24)
  have B0 := Lib.hid ((Below.refl w.heap.size w).alloc (Nat.le_refl _) (.cells #[.slice a t.length c] 24))
  have C0 := Lib.hid (fun W => starCount_any p W (by omega))
  unfold faultV at C2
  have hz := valT_zero hq
  obtain ⟨i0, hi0, hz0, hz1, hz2⟩ := info_parts info9
  obtain ⟨hd, p4⟩ := valT_ok hq
  have o2 := Pass.ok2 hd (p4.mono (by omega))
  have C3 := Lib.hid (fun W (hb : Below w.heap.size w W) => refPathsOf_any a c t (-1) W o2.toOk1 o2.from0 (h.up hb))
  have hwt : (fun m : Nat => (m : Int) == -1 || decide ((-1 : Int) < 0)) = fun _ => true := by funext m; simp
  rw [hwt] at C3
  unfold SortPost at C3
  have hF : findF t p = (0, 0) := by unfold findF; rw [if_neg (by rw [hq]; simp), if_neg hl, hs]; rfl
  have HX := Lib.hid (fun (P : List ByteArray) (hP : AscOf P (pathsW (fun _ => true) (visits t 0))) (x : ByteArray) (hx : x ∈ P) => (path_parts hd p4 (want := fun _ => true) ((hP.2 x).1 hx)).2)
  have C1 := Lib.hid (fun W (hb : Below w.heap.size w W) => (find_any a c t p W (gm.below hb) (h.up hb) (by unfold maxLen; omega)).mono (fun e w' hh => (show ∃ v P, e = .returned (.tuple #[v, .agg #[.int .i64 0, .int .i64 0]]) ∧ AscOf P (pathsW (fun _ => true) (visits t 0)) ∧ Strs w' w'.heap.size v (P.filter (keepP p)) ∧ Below W.heap.size W w' from by
    rcases hh with ⟨h0, _⟩ | ⟨_, h1⟩
    · rw [hF] at h0; exact absurd rfl h0
    · exact h1)))
  have HPL := Lib.hid (fun (P : List ByteArray) (hP : AscOf P (pathsW (fun _ => true) (visits t 0))) => (show P.length ≤ 100000 from by
    have h1 := nodup_len P _ (hP.1.imp (fun h => ltS_ne h)) (fun x hx => (hP.2 x).1 hx)
    have h2 := pathsW_len (fun _ => true) (visits t 0)
    have h3 := len_visits o2.toOk1 o2.from0
    omega))
  rw [hz] at C2
  simp only at C2
  have h100p : p.size ≤ 100 := by omega
  have h60b : ¬ (60 : Int) < (p.size : Int) := by omega
  have h100 : ¬ (100 : Int) < (p.size : Int) := by omega
  obtain ⟨r, hpl⟩ := (hasSlash p.data.toList).1 hs
  have hne := notEmpty hpl
  obtain ⟨hp0, hpd⟩ := first_of hpl
  have hd2 : ((p[0].toNat : Int) == 47) = true := by rw [hpd hp0]; rfl
  have hd3 : ((p[0].toNat : Int) != 47) = false := by rw [bne, hd2]; rfl
  clear hq hF gm h hz h60 hd p4 o2 hwt hs hpl hpd
  generalize pathsW (fun _ => true) (visits t 0) = X at *
  go_enter Tryz.func3, Tryz.ntmps3
  go_wp2_with fail
  refine (C0.out _).mono ?_
  rintro e _ ⟨⟨n, rfl⟩, rfl⟩
  by_cases hn : 4 < n
  · have hnz : (4 : Int) < (n : Int) := by omega
    go_wp2
    go_ret
    exact ⟨rfl, B0.out⟩
  have hnz : ¬ (4 : Int) < (n : Int) := by omega
  go_wp2_with fail
  refine (C1.out _ B0.out).mono ?_
  rintro e w2 ⟨v, P, rfl, ha, SL0, b2⟩
  have B2 := Lib.hid (B0.out.trans (b2.mono B0.out.size))
  have GM2 := Lib.hid (GM0.out.below B2.out)
  have T2 := Lib.hid (T0.out.below b2 T0.out.lt)
  have ht2 := T2.out.lt
  have BF3 := Lib.hid ((Below.refl w2.heap.size w2).alloc (Nat.le_refl _) (.cells #[.int .i64 0, .int .i64 0] 28))
  have F63 := Lib.hid (FBox.new w2 0 0 28)
  have t3 := (T2.out.below BF3.out ht2).c0
  have tl3 := (T2.out.below BF3.out ht2).lt
  obtain ⟨va, vc, rfl, _⟩ := SL0.form (n := (P.filter (keepP p)).length) rfl
  have SL := Lib.hid SL0
  have HA := Lib.hid ha
  have HXS := Lib.hid (HX.out P ha)
  have hPl := HPL.out P ha
  clear b2 SL0 ha
  go_wp2_with fail
  refine (C2.out _ (B2.out.trans (BF3.out.mono B2.out.size))).mono ?_
  rintro e w4 ⟨rfl, b4⟩
  have BF4 := Lib.hid ((BF3.out.trans (b4.mono BF3.out.size)).alloc (by have := BF3.out.size; have := b4.size; omega) (.cells #[.int .i64 0, .int .i64 0] 28))
  have F64 := Lib.hid ((F63.out.below b4 F63.out.lt).alloc (.cells #[.int .i64 0, .int .i64 0] 28))
  have F74 := Lib.hid (FBox.new w4 0 0 28)
  have hs4 := b4.size
  have hf63 := F63.out.lt
  clear b4 BF3 F63 t3 tl3
  have BF := BF4
  have F6 := F64
  have F7 := F74
  obtain ⟨ly, y0, y1, zf0, zf1⟩ := F74.out
  clear BF4 F64 F74
  go_wp2_with fail
  refine (CS.out _).mono ?_
  rintro e w5 ⟨sb, rfl, SN, b5⟩
  have BF5 := Lib.hid (BF.out.trans (b5.mono BF.out.size))
  have F65 := Lib.hid (F6.out.below b5 F6.out.lt)
  have F75 := Lib.hid (F7.out.below b5 F7.out.lt)
  clear b5 BF F6 F7
  go_wp2_with fail
  refine (CSF.out sb _ (GM2.out.below BF5.out) SN).mono ?_
  rintro e w6 ⟨v6, rfl, S6, b6⟩
  obtain ⟨v6a, v6c, rfl, _⟩ := S6.form (n := 1) rfl
  have hs6 := b6.size
  have BF6 := Lib.hid (BF5.out.trans (b6.mono BF5.out.size))
  have F66 := Lib.hid (F65.out.below b6 F65.out.lt)
  have F76 := Lib.hid (F75.out.below b6 F75.out.lt)
  have S7 := Lib.hid ((S6.alloc (Nat.le_refl _) (.cells #[.int .i64 0, .int .i64 0] 28)).alloc (by simp) (.cells #[.string ⟨#[47, 97, 47, 102]⟩] 9))
  have L7 := Lib.hid (strs_cell (B := ((w6.alloc (.cells #[.int .i64 0, .int .i64 0] 28)).alloc (.cells #[.string ⟨#[47, 97, 47, 102]⟩] 9)).heap.size) (g := w6.heap.size + 1) (y := ⟨#[47, 97, 47, 102]⟩) (new_cell (w := w6.alloc (.cells #[.int .i64 0, .int .i64 0] 28)) (cs := #[.string ⟨#[47, 97, 47, 102]⟩]) (t := 9) (r := (0, 0)) (by simp) rfl) (by simp) (by decide))
  have BF7 := Lib.hid ((BF6.out.alloc BF6.out.size (.cells #[.int .i64 0, .int .i64 0] 28)).alloc (by have := BF6.out.size; simp; omega) (.cells #[.string ⟨#[47, 97, 47, 102]⟩] 9))
  have F67 := Lib.hid ((F66.out.alloc (.cells #[.int .i64 0, .int .i64 0] 28)).alloc (.cells #[.string ⟨#[47, 97, 47, 102]⟩] 9))
  have F77 := Lib.hid ((F76.out.alloc (.cells #[.int .i64 0, .int .i64 0] 28)).alloc (.cells #[.string ⟨#[47, 97, 47, 102]⟩] 9))
  clear S6 b6 BF5 F65 F75 BF6 F66 F76 SN
  go_wp2_with fail
  refine (strsSame_any _ _ [⟨#[47, 97, 47, 102]⟩] _ _ _ S7.out L7.out).mono ?_
  rintro e _ ⟨rfl, q7, rfl⟩
  have BF := Lib.hid (below_drewN BF7.out q7)
  have F6 := Lib.hid (F67.out.dn q7)
  have F7 := Lib.hid (F77.out.dn q7)
  clear BF7 F67 F77 S7 L7
  generalize ((w6.alloc (.cells #[.int .i64 0, .int .i64 0] 28)).alloc (.cells #[.string ⟨#[47, 97, 47, 102]⟩] 9)).drewN q7 = w8 at *
  obtain ⟨l6, a60, a61, _, _⟩ := F6.out
  obtain ⟨l7, a70, a71, _, _⟩ := F7.out
  have t8 := (T2.out.below BF.out ht2).c0
  have tl8 := (T2.out.below BF.out ht2).lt
  clear y0 y1 zf0 zf1 ly
  go_wp2_with fail
  refine (C3.out _ (B2.out.trans (BF.out.mono B2.out.size))).mono ?_
  rintro e w9 ⟨v3, P3, rfl, ha3, S3, _, b9⟩
  obtain rfl : P = P3 := HA.out.same ha3
  obtain ⟨a3, c3, rfl, hc3, hl3, _, hcell3⟩ := S3
  have HC3 := Lib.hid hcell3
  have BF9 := Lib.hid (BF.out.trans (b9.mono BF.out.size))
  have F69 := Lib.hid (F6.out.below b9 F6.out.lt)
  have F79 := Lib.hid (F7.out.below b9 F7.out.lt)
  clear b9 ha3 hcell3 BF F6 F7 t8 tl8 a60 a61 a70 a71 l6 l7
  go_wp2_with fail
  go_loopg [11, 12] P.length (fun gg s11 s12 wr => ∃ i : Nat, s12 = .int .i64 i ∧ i ≤ P.length ∧ P.length - i ≤ gg ∧ Aside (wr.ownsRow w9.heap.size 9 1 s11 ((P.take i).filter (keepP p)).length (((P.take i).filter (keepP p)).map Value.string) ∧ Below w9.heap.size w9 wr))
  case atStart => exact ⟨0, rfl, Nat.zero_le _, by omega, (show _ ∧ _ from ⟨⟨rfl, .inl ⟨rfl, rfl⟩⟩, Below.refl _ _⟩)⟩
  case round =>
    obtain ⟨i, rfl, hi, hg, A⟩ := hrel
    obtain ⟨hown, hbw⟩ := A.out
    have HO := Lib.hid hown
    have HB := Lib.hid hbw
    clear A hown hbw
    obtain ⟨w10, rfl⟩ : ∃ w10 : World, w10 = wr := ⟨_, rfl⟩
    by_cases hlt : i < P.length
    · obtain ⟨b3, o3, rfl, hb3, hcell⟩ := HC3.out (by omega)
      have hck := (HB.out.cell (p := ⟨b3, o3 + i, none⟩) hb3).trans (hcell i hlt)
      have hbl : b3 < w10.heap.size := Nat.lt_of_lt_of_le hb3 HB.out.size
      have hltz : (i : Int) < (P.length : Int) := by omega
      have hxs : (P.getD i ByteArray.empty).size ≤ 100 := HXS.out _ (by rw [getD_eq hlt]; exact List.getElem_mem hlt)
      have HT := Lib.hid (take_filter (q := keepP p) hlt)
      have hfl : ((P.take i).filter (keepP p)).length ≤ i := Nat.le_trans (List.length_filter_le _ _) (by rw [List.length_take]; exact Nat.min_le_left _ _)
      clear hcell
      generalize P.getD i ByteArray.empty = x at *
      have CX := Lib.hid (fun W => nonEmptyS_any x W hxs)
      have CP := Lib.hid (fun W => nonEmptyS_any p W h100p)
      have CM := Lib.hid (fun v u W h1 h2 => keepComps_any p x h100p hxs v u W h1 h2)
      have hi0z : (0 : Int) ≤ (i : Int) := Int.natCast_nonneg _
      go_upto_region 19 with fail
      go_cut [96] from 83 to 103 (fun s96 wx => s96 = .bool (keepP p x) ∧ Below w10.heap.size w10 wx)
      case first =>
        have hckd : w10.drew.cell? ⟨b3, o3 + i, none⟩ = some (.string x) := hck
        have hi1 : i < P.length := hlt
        go_region_with (first
          | (go_at_call 12; with_reducible refine (CP.out _).mono ?_; rintro e zA ⟨vA, rfl, sA, bA⟩; have bA' : Below w10.heap.size w10 zA := ((Below.refl _ _).drew).trans (bA.mono (Nat.le_refl _)); have lA : b3 < zA.heap.size := Nat.lt_of_lt_of_le hbl bA'.size; have gA : zA.cell? ⟨b3, o3 + i, none⟩ = some (.string x) := (bA'.cell (p := ⟨b3, o3 + i, none⟩) hbl).trans hck)
          | (go_at_call 12; with_reducible refine (CX.out _).mono ?_; rintro e zB ⟨vB, rfl, sB, bB⟩)
          | (go_at_call 11; refine (CM.out _ _ _ (by first | exact sA | exact (sA.below bB).more bB.size) (by first | exact sB | exact (sB.below bA).more bA.size)).mono ?_; rintro e _ ⟨rfl, qM, rfl⟩))
        all_goals
          go_wp2_with fail
          go_meet
          first
            | exact ⟨rfl, below_drewN (((Below.refl w10.heap.size w10).drew.trans bA).trans (bB.mono bA.size)) _⟩
            | exact ⟨rfl, below_drewN (((Below.refl w10.heap.size w10).drew.trans bB).trans (bA.mono bB.size)) _⟩
      case rest =>
        obtain ⟨rfl, bx⟩ := hcut
        obtain ⟨w11, rfl⟩ : ∃ w11 : World, w11 = wc := ⟨_, rfl⟩
        have HB11 := Lib.hid (HB.out.trans (bx.mono HB.out.size))
        have HO11 := own_below HO.out bx
        have hck11 := (bx.cell (p := ⟨b3, o3 + i, none⟩) hbl).trans hck
        have hbl11 : b3 < w11.heap.size := Nat.lt_of_lt_of_le hbl bx.size
        have hsz11 : w9.heap.size ≤ w11.heap.size := HB11.out.size
        clear hck bx HO HB
        cases hk : keepP p x with
        | true =>
          rw [hk, if_pos rfl] at HT
          have HG := Lib.hid HO11.lt
          go_wp2_with (at_builtin; refine wpList_append_own _ rfl _ _ 26 rfl w9.heap.size 9 i0 (.string ByteArray.empty) 1 16 Tryz.underlying26 hi0 hz0 hz1 hz2 rfl (by decide) _ _ _ rfl (HO11.alloc _) ⟨w11.heap.size, 0, none⟩ 1 1 [.string x] rfl rfl ?c1 ?c2 ?c3 ?c4 ?c5 ?_)
          case c1 => exact cell_one_new _ _ _
          case c2 => simp [Value.oneCell']
          case c3 => unfold maxLen; omega
          case c4 => omega
          case c5 => simp; omega
          intro v' w12 hown12 hgrow12 _
          have HO12 := Lib.hid hown12
          clear HO11 hown12
          go_wp2
          go_roundg (P.length - (i + 1))
          case measure => omega
          case rel =>
            refine ⟨i + 1, by go_num, by omega, by omega, (show _ ∧ _ from ⟨?_, ?_⟩)⟩
            · rw [HT.out]; simpa using HO12.out
            · exact (HB11.out.alloc hsz11 _).grown hgrow12 (by simp; omega) (fun g hg => (HG.out g hg).1)
        | false =>
          rw [hk, if_neg (by simp)] at HT
          have HO12 := Lib.hid HO11
          clear HO11
          go_wp2
          go_roundg (P.length - (i + 1))
          case measure => omega
          case rel => exact ⟨i + 1, by go_num, by omega, by omega, (show _ ∧ _ from ⟨by rw [HT.out]; exact HO12.out, HB11.out⟩)⟩
    · obtain rfl : i = P.length := by omega
      have HO' := HO.out
      rw [List.take_length] at HO'
      have BW := Lib.hid (BF9.out.trans (HB.out.mono BF9.out.size))
      have S5 := Lib.hid (SL.out.below BW.out)
      have hfl : (P.filter (keepP p)).length ≤ 35184372088832 := by obtain ⟨_, _, _, _, hl, _⟩ := SL.out; exact hl
      have SW := Lib.hid (strs_row HO' (fun x hx => by have := HXS.out x (List.mem_filter.1 hx).1; unfold maxLen; omega) hfl)
      obtain ⟨wa, wc2, rfl, _⟩ := SW.out.form (n := (P.filter (keepP p)).length) rfl
      obtain ⟨l6, a60, a61, _, _⟩ := F69.out.below HB.out F69.out.lt
      obtain ⟨l7, a70, a71, _, _⟩ := F79.out.below HB.out F79.out.lt
      clear HO' HO
      go_wp2_with fail
      refine (strsSame_any _ _ _ _ _ _ S5.out SW.out).mono ?_
      rintro e _ ⟨rfl, qz, rfl⟩
      go_wp2
      go_ret
      exact ⟨rfl, below_drewN (B2.out.trans (BW.out.mono B2.out.size)) qz⟩

theorem lawFind_any (a : Option Addr) (c : Nat) (t : Tr) (p : ByteArray) (w : World) (gm : GM w) (hp : p.size < 140737488355328) (h : Nods w w.heap.size a c t) :
    Calls Tryz.prog 3 #[.agg #[.slice a t.length c], .string p] w fun e w' => e = .returned (.bool true) ∧ Below w.heap.size w w' := by
  have T0 := Lib.hid (One.new w (.slice a t.length c) 24)
  have B0 := Lib.hid ((Below.refl w.heap.size w).alloc (Nat.le_refl _) (.cells #[.slice a t.length c] 24))
  have C0 := Lib.hid (fun W => starCount_any p W (by omega))
  by_cases h60 : 60 < p.size ∧ p.size ≤ 100
  · have h1 : (60 : Int) < (p.size : Int) := by omega
    have h2 : (p.size : Int) ≤ 100 := by omega
    clear gm h h60
    go_enter Tryz.func3, Tryz.ntmps3
    go_wp2_with fail
    refine (C0.out _).mono ?_
    rintro e _ ⟨⟨n, rfl⟩, rfl⟩
    by_cases hn : 4 < n
    · have hnz : (4 : Int) < (n : Int) := by omega
      go_wp2
      go_ret
      exact ⟨rfl, B0.out⟩
    have hnz : ¬ (4 : Int) < (n : Int) := by omega
    go_wp2
    go_ret
    exact ⟨rfl, B0.out⟩
  by_cases hq : (valT t).1 = 0
  · by_cases hl : 100 < p.size
    · exact lawFind_long a c t p w gm hp h h60 hq hl
    · cases hs : Lib.hasPrefix p.data.toList [47] with
      | false => exact lawFind_bare a c t p w gm hp h h60 hq hl hs
      | true => exact lawFind_good a c t p w gm hp h h60 hq hl hs
  · exact lawFind_tree a c t p w gm hp h h60 hq

end Go.Proofs.YtoeiaffkedkepaaGreatDoor

/- What an argument of type api.Tree reads as: a list of inodes. No condition: every such tree that a machine can hold. -/
namespace Go.Proofs.YtoeiaffkedkepaaGreatDoor
open Go.ChangeShapes Go.WideShapes Go.ChangeAt Go.RowKit Go.Deep

section
variable {H : Type} {P : Program}
theorem weights_all {e : TypeId} : ∀ {l : List (DataW H)} {d : DataW H}, d ∈ l → ∀ n ∈ d.weights P e, n ∈ DataW.weightsAll P e l
  | [], _, hd, _, _ => absurd hd (by simp)
  | d0 :: l, d, hd, n, hn => by
    simp only [DataW.weightsAll, List.mem_append]
    rcases List.mem_cons.1 hd with rfl | hd
    · exact .inl hn
    · exact .inr (weights_all hd n hn)
/-- All that is read is as large as a machine can hold. -/
def Held (P : Program) (t : TypeId) (d : DataW H) : Prop := ∀ n ∈ d.weights P t, n ≤ reachBytes
theorem Held.slice {t e : TypeId} {elems spare : List (DataW H)} (hu : P.underlying t = some (.slice e)) (h : Held P t (.slice elems spare)) : (elems.length + spare.length) * P.bytesOf e ≤ reachBytes :=
  h _ (by simp [DataW.weights, hu])
theorem Held.elem {t e : TypeId} {elems spare : List (DataW H)} (hu : P.underlying t = some (.slice e)) (h : Held P t (.slice elems spare)) {d : DataW H} (hd : d ∈ elems) : Held P e d := fun n hn => h n (by
  simp only [DataW.weights, hu, List.mem_cons, List.mem_append]
  exact .inr (.inl (weights_all hd n hn)))
theorem Held.field {t : TypeId} {fs : Array Field} {parts : List (DataW H)} (hu : P.underlying t = some (.struct fs)) (h : Held P t (.agg parts)) {j : Nat} {f : Field} {d : DataW H} (hf : fs[j]? = some f) (hd : parts[j]? = some d) : Held P f.type d := fun n hn => h n (by
  simp only [DataW.weights, hu]
  exact DataW.weights_mem_each (j := j) (by simp [List.getElem?_map, Array.getElem?_toList, hf]) hd n hn)
theorem field_of {fs : Array Field} {l : Array (TypeId × Nat)} (h : fs.map (fun f => (f.type, f.offset)) = l) {j o : Nat} {t : TypeId} (hj : l[j]? = some (t, o)) : ∃ f, fs[j]? = some f ∧ f.type = t ∧ f.offset = o := by
  subst h
  rw [Array.getElem?_map] at hj
  cases h1 : fs[j]? with
  | none => rw [h1] at hj; cases hj
  | some f =>
    rw [h1] at hj
    injection hj with hj
    injection hj with h2 h3
    exact ⟨f, rfl, h2, h3⟩
variable {enc : TypeId × Value → H} {w : World} {base : Nat} {spare : Nat → Bool} {held : Bool}
theorem trod_field {t tj : TypeId} {fs : Array Field} {l : Array (TypeId × Nat)} {m j oj : Nat} {cs : List Value} {x : DataW H × List MemPlace} (hu : P.underlying t = some (.struct fs)) (hl : fs.map (fun f => (f.type, f.offset)) = l)
    (h : DataW.trod enc P w base spare held m t cs = some x) (hj : l[j]? = some (tj, oj)) :
    ∃ n y, DataW.trod enc P w base spare held n tj ((cs.drop oj).take (P.cellsOf tj)) = some y ∧ (Held P t x.1 → Held P tj y.1) := by
  obtain ⟨xs, n', _, hx, hlen, hxl, hf⟩ := DataW.trod_struct hu h
  obtain ⟨f, h1, h2, h3⟩ := field_of hl hj
  have h4 := hf j f h1
  rw [h2, h3] at h4
  have hjx : j < xs.length := by
    rw [hxl]
    exact (Array.getElem?_eq_some_iff.1 h1).1
  rw [List.getElem?_eq_getElem hjx] at h4
  refine ⟨n', _, h4, fun hh => ?_⟩
  rw [hx] at hh
  have := hh.field hu h1 (d := xs[j].1) (by rw [List.getElem?_map, List.getElem?_eq_getElem hjx]; rfl)
  rwa [h2] at this
theorem trod_slice_form {t e : TypeId} {m : Nat} {v : Value} {x : DataW H × List MemPlace} (hu : P.underlying t = some (.slice e)) (h : DataW.trod enc P w base spare held m t [v] = some x) : ∃ a n c, v = .slice a n c := by
  rcases open_slice hu h with ⟨hcs, _⟩ | ⟨ad, len, cap, _, _, _, _, hcs, _⟩
  · injection hcs with hcs; exact ⟨_, _, _, hcs⟩
  · injection hcs with hcs; exact ⟨_, _, _, hcs⟩
end

theorem de_under : Tryz.prog.underlying 58 = some (.struct (Tryz.prog.fieldsOf 58)) := by kernel_rfl
theorem de_fields : (Tryz.prog.fieldsOf 58).map (fun f => (f.type, f.offset)) = #[(9, 0), (3, 1)] := by kernel_rfl
theorem de_cells : Tryz.prog.cellsOf 58 = 2 := by kernel_rfl
theorem de_bytes : Tryz.prog.bytesOf 58 = 24 := by kernel_rfl
theorem nod_under : Tryz.prog.underlying 50 = some (.struct (Tryz.prog.fieldsOf 50)) := by kernel_rfl
theorem nod_fields : (Tryz.prog.fieldsOf 50).map (fun f => (f.type, f.offset)) = #[(3, 0), (3, 1), (45, 2), (46, 3), (47, 4), (48, 5), (3, 6), (3, 7)] := by kernel_rfl
theorem nod_cells : Tryz.prog.cellsOf 50 = 8 := by kernel_rfl
theorem nod_bytes : Tryz.prog.bytesOf 50 = 128 := by kernel_rfl
theorem u8_bytes : Tryz.prog.bytesOf 5 = 1 := by kernel_rfl
theorem tree_under : Tryz.prog.underlying 24 = some (.struct (Tryz.prog.fieldsOf 24)) := by kernel_rfl
theorem tree_fields : (Tryz.prog.fieldsOf 24).map (fun f => (f.type, f.offset)) = #[(22, 0)] := by kernel_rfl
theorem tree_cells : Tryz.prog.cellsOf 24 = 1 := by kernel_rfl
theorem sl_cells0 : Tryz.prog.cellsOf 22 = 1 := by kernel_rfl
theorem sl_cells1 : Tryz.prog.cellsOf 45 = 1 := by kernel_rfl
theorem sl_cells2 : Tryz.prog.cellsOf 46 = 1 := by kernel_rfl
theorem sl_cells3 : Tryz.prog.cellsOf 47 = 1 := by kernel_rfl
theorem sl_cells4 : Tryz.prog.cellsOf 48 = 1 := by kernel_rfl
theorem one_of {α : Type} {cs : List α} (h : cs.length = 1) : ∃ c0, cs = [c0] := by
  match cs, h with
  | [c0], _ => exact ⟨c0, rfl⟩
theorem eight_of {α : Type} {cs : List α} (h : cs.length = 8) : ∃ c0 c1 c2 c3 c4 c5 c6 c7, cs = [c0, c1, c2, c3, c4, c5, c6, c7] := by
  match cs, h with
  | [c0, c1, c2, c3, c4, c5, c6, c7], _ => exact ⟨c0, c1, c2, c3, c4, c5, c6, c7, rfl⟩
instance nodInhabited : Inhabited Nod := ⟨N0⟩
theorem reach_num : reachBytes = 140737488351232 := by decide

section
variable {H : Type} {enc : TypeId × Value → H} {W : World}
/-- Two cells that read as an entry are a string and an integer. -/
theorem de_of {n : Nat} {cs : List Value} {y : DataW H × List MemPlace}
    (h : DataW.trod enc Tryz.prog W 0 (fun _ => true) true n 58 cs = some y) : ∃ (x : ByteArray) (i : Int), cs = [.string x, .int .i64 i] ∧ x.size ≤ maxLen ∧ i64 i := by
  obtain ⟨xs, n', _, _, hlen, _, _⟩ := DataW.trod_struct de_under h
  rw [de_cells] at hlen
  obtain ⟨c0, c1, rfl⟩ := two_of hlen
  obtain ⟨_, _, g0, _⟩ := trod_field de_under de_fields h (j := 0) (tj := 9) (oj := 0) rfl
  obtain ⟨_, _, g1, _⟩ := trod_field de_under de_fields h (j := 1) (tj := 3) (oj := 1) rfl
  rw [str_cells] at g0
  rw [int_cells] at g1
  obtain ⟨s, h0, _, f0⟩ := DataW.trod_string Tryz.underlying9 g0
  obtain ⟨i, h1, _, f1⟩ := DataW.trod_int Tryz.underlying3 g1
  simp at h0 h1
  exact ⟨s, i, by rw [h0, h1], f0, wf_int f1⟩

set_option maxRecDepth 100000 in
theorem des_of {fuel : Nat} {a : Option Addr} {len cap : Nat} {x : DataW H × List MemPlace}
    (hf : DataW.trod enc Tryz.prog W 0 (fun _ => true) true fuel 45 [.slice a len cap] = some x) (hw : Held Tryz.prog 45 x.1) : ∃ es, DEs W W.heap.size (.slice a len cap) es := by
  rcases open_slice Tryz.underlying45 hf with ⟨hcs, hx⟩ | ⟨ad, len', cap', m, n, D, Pl, hcs, _, hl, hm, hmm, hx, hi⟩
  · simp at hcs
    obtain ⟨rfl, rfl, rfl⟩ := hcs
    exact ⟨[], DEs.none_ _ _⟩
  · simp at hcs
    obtain ⟨rfl, rfl, rfl⟩ := hcs
    simp only [if_true] at hmm
    rw [hx] at hw
    have hr := hw.slice Tryz.underlying45
    rw [de_bytes, reach_num] at hr
    simp only [List.length_map, List.length_range] at hr
    have key : ∀ i, i < len → ∃ (x : ByteArray) (k : Int), W.cell? (ad.add (i * 2)) = some (.string x) ∧ W.cell? (ad.add (i * 2 + 1)) = some (.int .i64 k) ∧ x.size ≤ maxLen ∧ i64 k := by
      intro i hil
      obtain ⟨cs, hc, ht⟩ := hi i (by omega)
      rw [de_cells] at hc
      obtain ⟨x, k, rfl, fx, fk⟩ := de_of ht
      obtain ⟨_, _, hat⟩ := World.cells?_some hc
      have h0 := hat 0 (by omega)
      have h1 := hat 1 (by omega)
      rw [Go.Deep.add_add] at h0 h1
      exact ⟨x, k, h0, h1, fx, fk⟩
    refine ⟨(List.range len).map (fun i => ⟨strOf ((W.cell? (ad.add (i * 2))).getD undef), intOf ((W.cell? (ad.add (i * 2 + 1))).getD undef)⟩), ⟨some ad, cap, by simp, by simp; omega, by simp; omega, ?_, ?_⟩⟩
    · intro e he
      obtain ⟨i, hil, rfl⟩ := List.mem_map.1 he
      obtain ⟨n0, n1, h0, h1, f0, f1⟩ := key i (List.mem_range.1 hil)
      rw [h0, h1]
      exact ⟨f0, f1⟩
    · intro hp0
      have hp : 0 < len := by simpa using hp0
      clear hp0
      obtain ⟨b, off, spot⟩ := ad
      obtain ⟨n0, _, hc0, _⟩ := key 0 hp
      have hspot : spot = none := by simpa [Addr.add] using World.cell?_spot hc0
      subst hspot
      have hlt : b < W.heap.size := by have := cell_lt hc0; simpa [Addr.add] using this
      refine ⟨b, off, rfl, hlt, fun j hj => ?_⟩
      have hj : j < len := by simpa using hj
      have hg : ∀ g : Nat → DE, ((List.range len).map g).getD j D0 = g j := fun g => by
        rw [List.getD_eq_getElem?_getD, List.getElem?_eq_getElem (by simpa using hj)]; simp
      rw [hg]
      obtain ⟨n0, n1, h0, h1, _, _⟩ := key j hj
      rw [h0, h1]
      rw [add_plain] at h0 h1
      exact ⟨h0, h1⟩

set_option maxRecDepth 100000 in
/-- Eight cells that read as an inode. -/
theorem nod_of {n : Nat} {cs : List Value} {y : DataW H × List MemPlace}
    (h : DataW.trod enc Tryz.prog W 0 (fun _ => true) true n 50 cs = some y) (hw : Held Tryz.prog 50 y.1) :
    ∃ ve vd va vx x, cs = [.int .i64 x.k, .int .i64 x.o, ve, vd, va, vx, .int .i64 x.q, .int .i64 x.v] ∧ NodS W W.heap.size ve vd va vx x := by
  obtain ⟨xs, n', _, _, hlen, _, _⟩ := DataW.trod_struct nod_under h
  rw [nod_cells] at hlen
  obtain ⟨c0, c1, c2, c3, c4, c5, c6, c7, rfl⟩ := eight_of hlen
  obtain ⟨_, _, g0, _⟩ := trod_field nod_under nod_fields h (j := 0) (tj := 3) (oj := 0) rfl
  obtain ⟨_, _, g1, _⟩ := trod_field nod_under nod_fields h (j := 1) (tj := 3) (oj := 1) rfl
  obtain ⟨_, y2, g2, w2⟩ := trod_field nod_under nod_fields h (j := 2) (tj := 45) (oj := 2) rfl
  obtain ⟨_, y3, g3, w3⟩ := trod_field nod_under nod_fields h (j := 3) (tj := 46) (oj := 3) rfl
  obtain ⟨_, y4, g4, w4⟩ := trod_field nod_under nod_fields h (j := 4) (tj := 47) (oj := 4) rfl
  obtain ⟨_, y5, g5, w5⟩ := trod_field nod_under nod_fields h (j := 5) (tj := 48) (oj := 5) rfl
  obtain ⟨_, _, g6, _⟩ := trod_field nod_under nod_fields h (j := 6) (tj := 3) (oj := 6) rfl
  obtain ⟨_, _, g7, _⟩ := trod_field nod_under nod_fields h (j := 7) (tj := 3) (oj := 7) rfl
  rw [int_cells] at g0 g1 g6 g7
  rw [sl_cells1] at g2
  rw [sl_cells2] at g3
  rw [sl_cells3] at g4
  rw [sl_cells4] at g5
  replace w2 := w2 hw
  replace w3 := w3 hw
  replace w4 := w4 hw
  replace w5 := w5 hw
  obtain ⟨k, h0, _, f0⟩ := DataW.trod_int Tryz.underlying3 g0
  obtain ⟨o, h1, _, f1⟩ := DataW.trod_int Tryz.underlying3 g1
  obtain ⟨q, h6, _, f6⟩ := DataW.trod_int Tryz.underlying3 g6
  obtain ⟨v, h7, _, f7⟩ := DataW.trod_int Tryz.underlying3 g7
  simp only [List.drop_succ_cons, List.drop_zero, List.take_succ_cons, List.take_zero] at h0 h1 h6 h7 g2 g3 g4 g5
  injection h0 with h0
  injection h1 with h1
  injection h6 with h6
  injection h7 with h7
  subst h0 h1 h6 h7
  obtain ⟨a2, l2, p2, rfl⟩ := trod_slice_form Tryz.underlying45 g2
  obtain ⟨a3, l3, p3, rfl⟩ := trod_slice_form Tryz.underlying46 g3
  obtain ⟨a4, l4, p4, rfl⟩ := trod_slice_form Tryz.underlying47 g4
  obtain ⟨a5, l5, p5, rfl⟩ := trod_slice_form Tryz.underlying48 g5
  obtain ⟨es, hE⟩ := des_of g2 w2
  obtain ⟨ac, hA, _⟩ := acls_of g4 (fun elems spare he => by
    rw [he] at w4
    have := w4.slice Tryz.underlying47
    rwa [ent_bytes, reach_num] at this)
  obtain ⟨ax, hX, _⟩ := ats_of g5 (fun elems spare he => by
    rw [he] at w5
    have := w5.slice Tryz.underlying48
    rwa [attr_bytes, reach_num] at this)
  have hD : l3 ≤ p3 ∧ l3 ≤ 140737488355328 := by
    rcases open_slice Tryz.underlying46 g3 with ⟨hcs, hx⟩ | ⟨ad, len', cap', m, n, D, Pl, hcs, _, hl, hm, hmm, hx, hi⟩
    · simp at hcs
      obtain ⟨rfl, rfl, rfl⟩ := hcs
      simp
    · simp at hcs
      obtain ⟨rfl, rfl, rfl⟩ := hcs
      rw [hx] at w3
      have hr := w3.slice Tryz.underlying46
      rw [u8_bytes, reach_num] at hr
      simp only [List.length_map, List.length_range] at hr
      omega
  exact ⟨_, _, _, _, ⟨k, o, es, l3, ac, ax, q, v⟩, rfl, ⟨hE, ⟨a3, p3, rfl, hD.1⟩, hD.2, hA, hX, wf_int f0, wf_int f1, wf_int f6, wf_int f7⟩⟩

set_option maxRecDepth 100000 in
/-- One cell that reads as a tree. -/
theorem tree_of {n : Nat} {cs : List Value} {y : DataW H × List MemPlace}
    (h : DataW.trod enc Tryz.prog W 0 (fun _ => true) true n 24 cs = some y) (hw : Held Tryz.prog 24 y.1) :
    ∃ (a : Option Addr) (c : Nat) (t : Tr), cs = [.slice a t.length c] ∧ Nods W W.heap.size a c t := by
  obtain ⟨xs, n', _, _, hlen, _, _⟩ := DataW.trod_struct tree_under h
  rw [tree_cells] at hlen
  obtain ⟨c0, rfl⟩ := one_of hlen
  obtain ⟨_, y0, g0, w0⟩ := trod_field tree_under tree_fields h (j := 0) (tj := 22) (oj := 0) rfl
  rw [sl_cells0] at g0
  simp only [List.drop_zero, List.take_succ_cons, List.take_zero] at g0
  replace w0 := w0 hw
  rcases open_slice Tryz.underlying22 g0 with ⟨hcs, hx⟩ | ⟨ad, len, cap, m, n, D, Pl, hcs, _, hl, hm, hmm, hx, hi⟩
  · exact ⟨none, 0, [], by simpa using hcs, ⟨by simp, by simp, fun h => absurd h (by simp)⟩⟩
  · rw [hcs]
    simp only [if_true] at hmm
    rw [hx] at w0
    have hr := w0.slice Tryz.underlying22
    rw [nod_bytes, reach_num] at hr
    simp only [List.length_map, List.length_range] at hr
    have key : ∀ i, i < len → ∃ x : Nod, ∃ ve vd va vx, (∃ cs', W.cells? 0 (ad.add (i * 8)) 8 = some cs' ∧ cs' = [.int .i64 x.k, .int .i64 x.o, ve, vd, va, vx, .int .i64 x.q, .int .i64 x.v]) ∧ NodS W W.heap.size ve vd va vx x := by
      intro i hil
      obtain ⟨cs', hc, ht⟩ := hi i (by omega)
      rw [nod_cells] at hc
      obtain ⟨ve, vd, va, vx, x, h1, h2⟩ := nod_of ht (w0.elem Tryz.underlying22 (List.mem_map.2 ⟨i, List.mem_range.2 hil, rfl⟩))
      exact ⟨x, ve, vd, va, vx, ⟨cs', hc, h1⟩, h2⟩
    obtain ⟨X, hX⟩ := choose_lt (α := Nod) (p := fun i x => ∃ ve vd va vx, (∃ cs', W.cells? 0 (ad.add (i * 8)) 8 = some cs' ∧ cs' = [.int .i64 x.k, .int .i64 x.o, ve, vd, va, vx, .int .i64 x.q, .int .i64 x.v]) ∧ NodS W W.heap.size ve vd va vx x) key
    refine ⟨some ad, cap, (List.range len).map X, by simp, ⟨by simp; omega, by simp; omega, fun hp0 => ?_⟩⟩
    have hp : 0 < len := by simpa using hp0
    clear hp0
    obtain ⟨b, off, spot⟩ := ad
    obtain ⟨_, _, _, _, ⟨cs', hc, rfl⟩, _⟩ := hX 0 hp
    obtain ⟨_, _, hat⟩ := World.cells?_some hc
    have hc0 := hat 0 (by omega)
    have hspot : spot = none := by simpa [Addr.add] using World.cell?_spot hc0
    subst hspot
    have hlt : b < W.heap.size := by have := cell_lt hc0; simpa [Addr.add] using this
    clear hc hat hc0
    refine ⟨b, off, rfl, hlt, fun j hj => ?_⟩
    have hj : j < len := by simpa using hj
    have hg : nod ((List.range len).map X) j = X j := by
      unfold nod
      rw [List.getD_eq_getElem?_getD, List.getElem?_eq_getElem (by simpa using hj)]; simp
    rw [hg]
    obtain ⟨ve, vd, va, vx, ⟨cs', hc, rfl⟩, hS⟩ := hX j hj
    obtain ⟨_, _, hat⟩ := World.cells?_some hc
    refine ⟨ve, vd, va, vx, ?_, hS⟩
    have h0 := hat 0 (by omega)
    have h1 := hat 1 (by omega)
    have h2 := hat 2 (by omega)
    have h3 := hat 3 (by omega)
    have h4 := hat 4 (by omega)
    have h5 := hat 5 (by omega)
    have h6 := hat 6 (by omega)
    have h7 := hat 7 (by omega)
    rw [Go.Deep.add_add, add_plain] at h0 h1 h2 h3 h4 h5 h6 h7
    exact ⟨h0, h1, h2, h3, h4, h5, h6, h7⟩
end

end Go.Proofs.YtoeiaffkedkepaaGreatDoor

/- GlobFindMatchesSpec: for every tree and every pattern the law returns true: glob.Find returns the paths that match in ascending order, or the fault, as the reference has them; the arguments are left as they were.
   Condition: the listed variables of package unicode/utf8 hold what the program's text lays (the card ties them); no other condition on the arguments. -/
namespace Go.Proofs.YtoeiaffkedkepaaGreatDoor.rowGlobFindMatchesSpec
open Go.ChangeShapes Go.WideShapes Go.ChangeAt Go.ChangeMaps Go.RowKit

theorem own : ownKnob Tryz.prog.godebug = none := by kernel_rfl
theorem laidOut : laidOutB Tryz.prog = true := by kernel_rfl
theorem gm_of {W : World} (h : W.ShapedOpen Tryz.prog) : GM W := by
  obtain ⟨m, hm⟩ := Tryz.laysM146.s1_3 W h
  exact ⟨cell_lt hm, m, hm⟩

noncomputable def w0 (os : Os) : World := World.laidAll Tryz.prog os Rows.globFindMatchesSpecRow.laid
theorem laid_met (os : Os) : laidMetH Tryz.prog Rows.globFindMatchesSpecRow.laid ((w0 os).forCall (fun _ _ => 0) ⟨#[], #[.agg #[.slice none 0 0], .string ⟨#[]⟩], []⟩).memory := by
  rw [MakeChecks.laidMetH_plain _ _ _ (by kernel_rfl)]; exact laidMet_laidAll _ (by kernel_rfl) (by kernel_rfl)
theorem reads (os : Os) {H : Type} (enc : TypeId × Value → H) : ∃ places, DataW.whole enc Tryz.prog ((w0 os).forCall (fun _ _ => 0) ⟨#[], #[.agg #[.slice none 0 0], .string ⟨#[]⟩], []⟩).memory Tryz.f3.params.toList Rows.globFindMatchesSpecSpec.vars false (#[.agg #[.slice none 0 0], .string ⟨#[]⟩] : Array Value).toList 8 = some ([.agg [.nil], .lit (.string [])], [], places) :=
  ⟨[], by kernel_rfl⟩
theorem okin (os : Os) : Input.okWideB Tryz.prog ((w0 os).forCall (fun _ _ => 0) ⟨#[], #[.agg #[.slice none 0 0], .string ⟨#[]⟩], []⟩) 3 ⟨#[], #[.agg #[.slice none 0 0], .string ⟨#[]⟩], []⟩ = true := by kernel_rfl

set_option maxRecDepth 100000 in
theorem lifted (os : Os) (started : os.Started) (H : Type) (enc : TypeId × Value → H) (F : Stop.Interp) :
    ReturnsInHanded {} Tryz.checked os 3 .any ((OpenSpec.ofChange Rows.globFindMatchesSpecSpec).preRow enc Tryz.prog Tryz.f3 Rows.globFindMatchesSpecRow.domain false Rows.globFindMatchesSpecRow.laid) (((OpenSpec.ofChange Rows.globFindMatchesSpecSpec).at F).post enc Tryz.prog Tryz.f3 false true false false) := by
  obtain ⟨places, hx⟩ := reads os enc
  refine returnsInHanded_of_row (C := Tryz.checked) (s := OpenSpec.ofChange Rows.globFindMatchesSpecSpec) own started (by kernel_rfl) Tryz.func3
    ⟨w0 os, fun _ _ => 0, ⟨#[], #[.agg #[.slice none 0 0], .string ⟨#[]⟩], []⟩, World.laidAll_os _ _ _, World.shaped_of_ZipB (by kernel_rfl) (by kernel_rfl),
      (Input.okWide_of_okWideB (base := 0) (okin os)).1, (Input.okWide_of_okWideB (okin os)).2,
      OpenSpec.preRow_of_cond 8 hx (by kernel_rfl) (fun k hk => by cases hk) (by kernel_rfl) (laid_met os), by
        simp only [Assume.holds]
        exact ⟨by simp, by simp, by simp, by simp, by simp⟩⟩ ?_
  intro W base args ds gs before hval0 hW _ _ hsz0 _ hsh _
  have hsz : (DataW.weightsEach Tryz.prog (Tryz.f3.params.toList ++ (OpenSpec.ofChange Rows.globFindMatchesSpecSpec).bare.plain.varTypes Tryz.prog) (ds ++ gs)).all (· ≤ reachBytes) = true := hsz0
  clear hsz0
  have hval : ∀ (j : Nat) t v, Tryz.f3.params[j]? = some t → args[j]? = some v → Value.okWide Tryz.prog W .any base t v := hval0
  have gm := gm_of hsh
  have hW' := hW
  obtain ⟨p, q, hA0, hV, rfl, _, _⟩ := hW
  have hA : DataW.TrodAll enc Tryz.prog W 0 (fun _ => true) true Tryz.f3.params.toList args.toList ds p := hA0
  rw [Tryz.params3] at hA hval hsz
  clear hA0 hval0
  obtain ⟨v0, t0, d0, e0, p0, q0, ar0, rfl, rfl, h0, r0⟩ := trodAll_cons hA
  obtain ⟨v1, t1, d1, e1, p1, q1, ar1, rfl, rfl, h1, r1⟩ := trodAll_cons r0
  obtain ⟨rfl, rfl, rfl⟩ := trodAll_nil r1
  subst ar1
  obtain rfl : args = #[v0, v1] := by cases args; simp_all
  clear ar0
  obtain ⟨rfl, rfl⟩ := trodVars_none hV
  obtain ⟨w0, rfl, _⟩ := okWide_struct tree_under (hval 0 24 v0 rfl rfl)
  have k0 := h0
  obtain ⟨fuel0, f0⟩ := h0
  have hw0 : Held Tryz.prog 24 d0 := fun n hn => by
    have := List.all_eq_true.1 hsz _ (DataW.weights_mem_each (j := 0) (t := 24) rfl rfl n hn)
    simpa using this
  obtain ⟨a0, c0, u0, hxz0, hS0⟩ := tree_of f0 hw0
  obtain rfl : w0 = #[.slice a0 u0.length c0] := by cases w0; simp [Value.cells] at hxz0; simp [hxz0]
  clear hxz0
  obtain ⟨s1, rfl, rfl, rfl, fs1⟩ := open_string Tryz.underlying9 (hval 1 9 v1 rfl rfl) h1
  try simp only [List.append_nil] at hW'
  have hlt : ∀ x ∈ p0 ++ ([] ++ ([])), x.block < W.heap.size := fun x hx => hW'.lt x (by first | exact hx | simpa using hx)
  refine (lawFind_any a0 c0 u0 s1 W gm (Nat.lt_of_le_of_lt (by simpa using sized_string hsz (j := 1) (t := 9) rfl rfl) reachBytes_lt) hS0).mono fun e W' ⟨he, hnx⟩ => ?_
  subst he
  exact ⟨_, rfl, _, _, _, [] ++ [], p0 ++ ([] ++ ([])), [], hW', trodAll_mk1 (shut_bool Tryz.underlying4 true), trodAll_cons_mk (Below.trod laidOut (by kernel_rfl) (of_decide_eq_true (by kernel_rfl)) k0 hnx (fun x hx => hlt x (by simp [hx]))) (trodAll_cons_mk (shut_string Tryz.underlying9 fs1) (trodAll_mk0)), rfl, hnx.frame _, fun h => by cases h⟩

theorem said : Rows.GlobFindMatchesSpecSaid :=
  OpenClaim.holds_of_cond 3 Tryz.f3 rfl rfl rfl rfl rfl rfl rfl ⟨rfl, rfl, rfl, rfl, rfl⟩ rfl rfl rfl rfl rfl (by kernel_rfl) Tryz.func3 (by kernel_rfl)
    (of_decide_eq_true (by kernel_rfl)) (by unfold Func.isWrapper; first | (rw [if_pos (by decide +kernel)]; kernel_rfl) | (rw [if_neg (by decide +kernel)]; exact ⟨rfl, rfl⟩))
    (fun os started H enc _ F => by rw [OpenClaim.pre_eq_preRow]; exact lifted os started H enc F)

theorem plain (f : FuncId) (fn : Func) (hf : Tryz.pinned.checked.prog.funcNamed "farshelf/farshelflaw4.GlobFindMatchesSpec" = some f) (hfn : Tryz.pinned.checked.prog.funcs[f]? = some fn) :
    false = Tryz.pinned.checked.prog.looks [] ∧ ∀ (j : Nat) t, fn.params[j]? = some t → Tryz.pinned.checked.prog.wantsStandIn t = false := by
  obtain rfl : f = 3 := Option.some.inj ((show Tryz.prog.funcNamed "farshelf/farshelflaw4.GlobFindMatchesSpec" = some 3 by kernel_rfl).symm.trans hf) |>.symm
  obtain rfl : fn = Tryz.f3 := (Option.some.inj (Tryz.func3.symm.trans hfn)).symm
  refine ⟨by kernel_rfl, fun j t ht => ?_⟩
  rw [Tryz.params3] at ht
  have hm := Array.mem_of_getElem? ht
  obtain h | h : t = 24 ∨ t = 9 := by simpa using hm
  · rw [h]; exact (show Tryz.prog.wantsStandIn 24 = false by kernel_rfl)
  · rw [h]; exact (show Tryz.prog.wantsStandIn 9 = false by kernel_rfl)

theorem card : Rows.GlobFindMatchesSpecCardSaid :=
  Claim7.holds_tied_plain_at .later [] _ _ _ _ said (fun _ h => by cases h) (by kernel_rfl) (fun _ h => by cases h) globFindMatchesSpec_row_tie rfl ⟨rfl, rfl⟩ (by kernel_rfl) rfl plain (by kernel_rfl)
end Go.Proofs.YtoeiaffkedkepaaGreatDoor.rowGlobFindMatchesSpec
