/- xattr.Diff at every two lists. Conditions: the slices' cells lie in memory as they read. -/
import Derived.Test.YtgbmbhcoelijfaaAttrNames
namespace Go.Proofs.Ytgbmbhcoelijfaa
open Go.RowKit

theorem getA_fits {xs : List Attr} (h : ∀ e ∈ xs, e.fits) (nm : ByteArray) : (getA xs nm).size ≤ maxLen := by
  unfold getA
  cases hf : xs.find? (fun a => decide (a.n = nm)) with
  | none => exact A0_fits.2
  | some a => exact (h a (List.mem_of_find?_eq_some hf)).2
/-- What Diff lays for one name. -/
def dif1 (a b : List Attr) (nm : ByteArray) : List Attr := if getA b nm = getA a nm then [] else [⟨nm, getA b nm⟩]
def diffK (a b : List Attr) (N : List ByteArray) (k : Nat) : List Attr := (N.take k).flatMap (dif1 a b)
theorem diffK_succ {a b : List Attr} {N : List ByteArray} {k : Nat} (h : k < N.length) : diffK a b N (k + 1) = diffK a b N k ++ dif1 a b (N.getD k ByteArray.empty) := by
  unfold diffK
  rw [List.take_succ_eq_append_getElem h, List.flatMap_append, strD h]
  simp
theorem dif1_len (a b : List Attr) (nm : ByteArray) : (dif1 a b nm).length ≤ 1 := by unfold dif1; split <;> simp
theorem diffK_len (a b : List Attr) (N : List ByteArray) : ∀ k, k ≤ N.length → (diffK a b N k).length ≤ k
  | 0, _ => by simp [diffK]
  | k + 1, h => by
    rw [diffK_succ (by omega), List.length_append]
    have := diffK_len a b N k (by omega)
    have := dif1_len a b (N.getD k ByteArray.empty)
    omega
theorem diffK_fits {a b : List Attr} {N : List ByteArray} (hb : ∀ e ∈ b, e.fits) (hN : ∀ x ∈ N, x.size ≤ maxLen) (k : Nat) : ∀ e ∈ diffK a b N k, e.fits := by
  intro e he
  unfold diffK at he
  obtain ⟨nm, h1, h2⟩ := List.mem_flatMap.1 he
  unfold dif1 at h2
  split at h2
  · cases h2
  · rw [List.mem_singleton.1 h2]
    exact ⟨hN nm (List.mem_of_mem_take h1), getA_fits hb nm⟩
def diffL (a b : List Attr) : List Attr := diffK a b (namesB [a, b].flatten) (namesB [a, b].flatten).length
def diffO (a b : List Attr) : List Attr := if (chkF [a, b]).1 = 0 then diffL a b else []
def DiffPost (a b : List Attr) (w : World) (e : Ending) (w' : World) : Prop :=
  ∃ v, e = .returned (.tuple #[v, faultV (chkF [a, b]).1 (chkF [a, b]).2]) ∧ Ats w' w'.heap.size v (diffO a b) ∧ Below w.heap.size w w'
theorem diff_bad {a b : List Attr} {c i : Int} {w w' : World} (h : chkF [a, b] = (c, i)) (hc : ¬ c = 0) (hb : Below w.heap.size w w') : DiffPost a b w (.returned (.tuple #[.slice none 0 0, faultV c i])) w' := by
  refine ⟨_, by rw [h], ?_, hb⟩
  unfold diffO; rw [h, if_neg hc]; exact Ats.none_ _ _
theorem chk_two {a b : List Attr} (h : (chkF [a, b]).1 = 0) : Good a ∧ Good b ∧ chkF [a, b] = (0, 0) := by
  have hz := firstNZ_zero _ _ _ h
  have h0 : (valA a).1 = 0 := by simpa using hz 0 (by simp)
  have h1 : (valA b).1 = 0 := by simpa using hz 1 (by simp)
  refine ⟨good_of h0, good_of h1, chk_miss fun j hj => ?_⟩
  match j, hj with
  | 0, _ => exact h0
  | 1, _ => exact h1

set_option maxRecDepth 100000 in
set_option maxHeartbeats 4000000 in
theorem diff_any (v1 v2 : Value) (a b : List Attr) (w : World) (h1 : Ats w w.heap.size v1 a) (h2 : Ats w w.heap.size v2 b) :
    Calls Try.prog 19 #[v1, v2] w (DiffPost a b w) := by
  have HCK := Lib.hid (fun W (v : Value) (h : Ass W W.heap.size v [v1, v2] [a, b]) => checkLists_any v [v1, v2] [a, b] W h)
  have HA1 := Lib.hid h1
  have HA2 := Lib.hid h2
  have HAS := Lib.hid (fun W (hb : Below w.heap.size w W) (n : Nat) (hn : n = W.heap.size) (t : TypeId) => ass_two W n hn v1 v2 a b (h1.up hb) (h2.up hb) t)
  obtain ⟨a1, c1, rfl, hc1⟩ := h1.form rfl
  obtain ⟨a2, c2, rfl, hc2⟩ := h2.form rfl
  clear h1 h2
  unfold faultV at HCK
  by_cases hv : (chkF [a, b]).1 = 0
  · obtain ⟨ga, gb, he⟩ := chk_two hv
    have HE := Lib.hid he
    have HO := Lib.hid (show diffO a b = diffL a b by unfold diffO; rw [if_pos hv])
    have htot : [a, b].flatten.length ≤ 1000 := by have := ga.len; have := gb.len; simp; omega
    have HN := Lib.hid (fun W (v : Value) (h : Ass W W.heap.size v [.slice a1 a.length c1, .slice a2 b.length c2] [a, b]) => namesIn_any v _ [a, b] W h htot)
    have HVA := Lib.hid (fun W nm (hb : Below w.heap.size w W) => valueOf_any _ a nm W (HA1.out.up hb) ga.srt)
    have HVB := Lib.hid (fun W nm (hb : Below w.heap.size w W) => valueOf_any _ b nm W (HA2.out.up hb) gb.srt)
    rw [he] at HCK
    have hnl := names_len [a, b].flatten
    have hNF := names_fits (L := [a, b].flatten) (fun e he => by
      simp at he
      rcases he with he | he
      · exact HA1.out.fits e he
      · exact HA2.out.fits e he)
    unfold NamesPost at HN
    have HDL := Lib.hid (show diffL a b = diffK a b (namesB [a, b].flatten) (namesB [a, b].flatten).length from rfl)
    generalize namesB [a, b].flatten = N at *
    have HNF := Lib.hid hNF
    have hN6 : N.length ≤ 1000 := by omega
    clear ga gb he hv htot hnl hNF
    go_enter Try.func19, Try.ntmps19
    go_wp2_with fail
    refine (HCK.out _ _ ((HAS.out _ ((Below.refl _ _).alloc (Nat.le_refl _) _) _ (by first | omega | (simp; done) | (simp; omega)) _).more (by first | omega | (simp; done) | (simp; omega)))).mono ?_
    rintro e w1 ⟨rfl, b1⟩
    have X1 := ((FBox.new w 0 0 24).alloc (.cells #[.slice a1 a.length c1, .slice a2 b.length c2] 22)).below b1 (by first | omega | (simp; done) | (simp; omega))
    have B1 : Below w.heap.size w w1 := (((Below.refl _ _).alloc (Nat.le_refl _) _).alloc (by first | omega | (simp; done) | (simp; omega)) _).trans (b1.mono (by first | omega | (simp; done) | (simp; omega)))
    have s1 := B1.size
    have l1 := X1.lt
    clear b1
    go_wp2_with fail
    refine (HN.out _ _ ((HAS.out _ (B1.alloc s1 (.cells #[.int .i64 0, .int .i64 0] 24)) _ (by first | omega | (simp; done) | (simp; omega)) _).more (by first | omega | (simp; done) | (simp; omega)))).mono ?_
    rintro e w2 ⟨vN, rfl, S2, b2⟩
    obtain ⟨aN, cN, rfl, _⟩ := S2.form rfl
    have X2 := Lib.hid (((X1.alloc (.cells #[.int .i64 0, .int .i64 0] 24)).alloc (.cells #[.slice a1 a.length c1, .slice a2 b.length c2] 22)).below b2 (by first | omega | (simp; done) | (simp; omega)))
    have B2 := Lib.hid (((B1.alloc s1 (.cells #[.int .i64 0, .int .i64 0] 24)).alloc (by first | omega | (simp; done) | (simp; omega)) (.cells #[.slice a1 a.length c1, .slice a2 b.length c2] 22)).trans (b2.mono (by first | omega | (simp; done) | (simp; omega))))
    have HS2 := Lib.hid S2
    have s2 := B2.out.size
    have l2 := X2.out.lt
    clear b2 X1 B1 S2 HCK HN HAS
    go_wp2_with fail
    go_loopg [7, 9, 10, 24] N.length (fun gg s7 _ _ s24 wr => ∃ k : Nat, k ≤ N.length ∧ N.length - k ≤ gg ∧ s24 = .int .i64 k ∧ Aside (wr.ownsRow w2.heap.size 27 2 s7 (diffK a b N k).length (flatA (diffK a b N k))) ∧ Aside (Below w2.heap.size w2 wr))
    case atStart => exact ⟨0, by omega, by omega, rfl, ⟨rfl, .inl ⟨rfl, rfl⟩⟩, Below.refl _ _⟩
    case round =>
      obtain ⟨k, hk, hg, rfl, O, BW⟩ := hrel
      have hs2 := BW.out.size
      by_cases hlt : k < N.length
      · have hltz : (k : Int) < (N.length : Int) := by omega
        obtain ⟨bn, o, rfl, hb, hj⟩ := HS2.out.spot (by omega)
        have g0 := (BW.out.cell (p := ⟨bn, o + k, none⟩) hb).trans (hj k hlt)
        clear hj
        have HS := Lib.hid (diffK_succ (a := a) (b := b) hlt)
        have hnf := HNF.out (N.getD k ByteArray.empty) (by rw [strD hlt]; exact List.getElem_mem hlt)
        have hKL := diffK_len a b N k hk
        have hBf := getA_fits HA2.out.fits (N.getD k ByteArray.empty)
        generalize N.getD k ByteArray.empty = nm at *
        have cB := fun W (hW : Below w.heap.size w W) => HVB.out W nm hW
        have cA := fun W (hW : Below w.heap.size w W) => HVA.out W nm hW
        have HD1 := Lib.hid (show dif1 a b nm = if getA b nm = getA a nm then [] else [⟨nm, getA b nm⟩] from rfl)
        have hbw := B2.out.trans (BW.out.mono s2)
        generalize getA a nm = ga at *
        generalize getA b nm = gb at *
        have LT := Lib.hid O.out.lt
        by_cases hne : gb = ga
        · subst hne
          rw [if_pos rfl] at HD1
          have hb1 : (gb.toList == gb.toList) = true := by simp
          go_wp2_with fail
          refine (cB _ hbw).mono ?_
          rintro e w3 ⟨rfl, b3⟩
          have bw3 := hbw.trans (b3.mono hbw.size)
          go_wp2_with fail
          refine (cA _ bw3).mono ?_
          rintro e w4 ⟨rfl, b4⟩
          have b34 := b3.trans (b4.mono b3.size)
          have IN := Lib.hid (show w4.ownsRow w2.heap.size 27 2 u7 (diffK a b N (k + 1)).length (flatA (diffK a b N (k + 1))) by
            rw [HS.out, HD1.out, List.append_nil]; exact own_below O.out b34)
          have B4 := Lib.hid (BW.out.trans (b34.mono hs2))
          clear b3 b4 b34 bw3 hbw
          go_wp2
          go_roundg (N.length - (k + 1))
          case measure => omega
          case rel => exact ⟨k + 1, by omega, by omega, by go_num, IN.out, B4.out⟩
        · rw [if_neg hne] at HD1
          have hb1 : (gb.toList == ga.toList) = false := by rw [beq_str]; simpa using hne
          clear hne
          go_wp2_with fail
          refine (cB _ hbw).mono ?_
          rintro e w3 ⟨rfl, b3⟩
          have bw3 := hbw.trans (b3.mono hbw.size)
          go_wp2_with fail
          refine (cA _ bw3).mono ?_
          rintro e w4 ⟨rfl, b4⟩
          have b34 := b3.trans (b4.mono b3.size)
          have B4 := Lib.hid (BW.out.trans (b34.mono hs2))
          have s4 := B4.out.size
          have OW := Lib.hid (own_below (own_below O.out b34) ((Below.refl w4.heap.size w4).alloc (Nat.le_refl _) (.cells #[.string nm, .string gb] 27)))
          have AO := Lib.hid (ats_one w4 _ rfl ⟨nm, gb⟩ ⟨hnf, hBf⟩ 27)
          clear b3 b4 b34 bw3 hbw
          go_wp2_with (at_builtin; refine wpList_append_attrs rfl (.tmp 36) (.tmp 40) rfl w2.heap.size u7 _ (diffK a b N k) rfl OW.out _ (.slice (some ⟨w4.heap.size, 0, none⟩) 1 1) [⟨nm, gb⟩] rfl AO.out (by first | omega | (simp; done) | (simp; omega)) (by first | omega | (simp; done) | (simp; omega)) ?_; intro v5 w5 hown5 hg5)
          have hs5 := hg5.size
          simp at hs5
          have IN := Lib.hid (show w5.ownsRow w2.heap.size 27 2 v5 (diffK a b N (k + 1)).length (flatA (diffK a b N (k + 1))) by
            rw [HS.out, HD1.out, List.length_append]; exact hown5)
          have B5 := Lib.hid ((B4.out.alloc s4 (.cells #[.string nm, .string gb] 27)).grown hg5 (by first | omega | (simp; done) | (simp; omega)) (fun g hg => by have := (LT.out g hg).1; omega))
          clear hown5 hg5 OW AO
          go_wp2
          go_roundg (N.length - (k + 1))
          case measure => omega
          case rel => exact ⟨k + 1, by omega, by omega, by go_num, IN.out, B5.out⟩
      · have hltz : ¬ (k : Int) < (N.length : Int) := by omega
        obtain rfl : k = N.length := by omega
        have hO := O.out
        rw [← HDL.out] at hO
        have hfit : ∀ e ∈ diffL a b, e.fits := by rw [HDL.out]; exact diffK_fits HA2.out.fits HNF.out _
        have hlen : (diffL a b).length ≤ 4398046511104 := by rw [HDL.out]; have := diffK_len a b N N.length (Nat.le_refl _); omega
        have HOWN := Lib.hid ((Aown.far (Aown.mk hO hfit hlen) (p := ⟨w.heap.size, 0, none⟩) (by first | omega | (simp; done) | (simp; omega)) (.int .i64 0)).far (p := ⟨w.heap.size, 1, none⟩) (by first | omega | (simp; done) | (simp; omega)) (.int .i64 0))
        obtain ⟨l1, a0, a1, f0, f1⟩ := X2.out.below BW.out l2
        have hbw := B2.out.trans (BW.out.mono s2)
        clear hO hfit hlen
        go_wp2
        refine bodyPost_ret (v := .tuple #[u7, faultV 0 0]) (by simp [results, Try.results19, faultV, go_sem, a0, a1]) rfl ⟨u7, by rw [HE.out], ?_, (hbw.setCell (by first | omega | (simp; done) | (simp; omega)) _).setCell (by first | omega | (simp; done) | (simp; omega)) _⟩
        rw [HO.out]
        exact HOWN.out.ats
  · have HF := Lib.hid (show chkF [a, b] = ((chkF [a, b]).1, (chkF [a, b]).2) from rfl)
    generalize (chkF [a, b]).1 = d at *
    generalize (chkF [a, b]).2 = i at *
    have hd1 : (d != 0) = true := by simpa using hv
    have hd2 : (d == 0) = false := by simpa using hv
    have HD := Lib.hid hv
    clear hv
    go_enter Try.func19, Try.ntmps19
    go_wp2_with fail
    refine (HCK.out _ _ ((HAS.out _ ((Below.refl _ _).alloc (Nat.le_refl _) _) _ (by first | omega | (simp; done) | (simp; omega)) _).more (by first | omega | (simp; done) | (simp; omega)))).mono ?_
    rintro e w1 ⟨rfl, b1⟩
    obtain ⟨l1, a0, a1, f0, f1⟩ := ((FBox.new w 0 0 24).alloc (.cells #[.slice a1 a.length c1, .slice a2 b.length c2] 22)).below b1 (by first | omega | (simp; done) | (simp; omega))
    have B1 : Below w.heap.size w w1 := (((Below.refl _ _).alloc (Nat.le_refl _) _).alloc (by first | omega | (simp; done) | (simp; omega)) _).trans (b1.mono (by first | omega | (simp; done) | (simp; omega)))
    clear b1
    go_wp2
    go_region
    all_goals
      go_wp2
      refine bodyPost_ret (v := .tuple #[.slice none 0 0, faultV d i]) (by simp [results, Try.results19, faultV, go_sem, a0, a1, l1]; try rfl) rfl (diff_bad HF.out HD.out ?_)
      have := B1.size
      repeat (first | exact B1 | refine Below.setCell ?_ (by first | omega | (simp; done) | (simp; omega)) _ | refine Below.alloc ?_ (by first | omega | (simp; done) | (simp; omega)) _ | refine Below.drew ?_)

end Go.Proofs.Ytgbmbhcoelijfaa
