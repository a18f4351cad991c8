/- namesIn at every list of lists: the names in ascending order, each once. Conditions: the slices' cells lie in memory as they read; a thousand attributes together at the most. -/
import Derived.Test.YtgbmbhcoelijfaaAttrLists
import Derived.Test.YtgbmbhcoelijfaaShelf
namespace Go.Proofs.Ytgbmbhcoelijfaa
open Go.RowKit Go.Sort

theorem Ats.spot {w : World} {B n c : Nat} {a : Option Addr} {xs : List Attr} (h : Ats w B (.slice a n c) xs) (h0 : 0 < xs.length) : ∃ b o, a = some ⟨b, o, none⟩ ∧ b < B ∧ ∀ j, j < xs.length → w.cell? ⟨b, o + j * 2, none⟩ = some (.string (xs.getD j A0).n) ∧ w.cell? ⟨b, o + j * 2 + 1, none⟩ = some (.string (xs.getD j A0).v) := by
  obtain ⟨a', c', hv, _, _, _, hx⟩ := h
  injection hv with h1 _ h2
  subst h1
  exact hx h0
theorem Strs.spot {w : World} {B n c : Nat} {a : Option Addr} {xs : List ByteArray} (h : Strs w B (.slice a n c) xs) (h0 : 0 < xs.length) : ∃ b o, a = some ⟨b, o, none⟩ ∧ b < B ∧ ∀ j, j < xs.length → w.cell? ⟨b, o + j, none⟩ = some (.string (xs.getD j ByteArray.empty)) := by
  obtain ⟨a', c', hv, _, _, _, hx⟩ := h
  injection hv with h1 _ h2
  subst h1
  exact hx h0
theorem namesB_nil : namesB [] = [] := List.eq_nil_of_length_eq_zero (by have := names_len []; simpa using this)

set_option maxRecDepth 100000 in
set_option maxHeartbeats 2000000 in
theorem namesIn_any (v : Value) (vs : List Value) (xss : List (List Attr)) (w : World) (h : Ass w w.heap.size v vs xss) (ht : xss.flatten.length ≤ 1000) :
    Calls Try.prog 30 #[v] w (NamesPost xss.flatten w) := by
  have HC := Lib.hid (concat_any v vs xss w h ht)
  unfold ConcPost at HC
  have HF := Lib.hid h.fits
  obtain ⟨a, c, rfl, hc, hl, _, _⟩ := h
  generalize xss.flatten = L at *
  generalize xss.length = nx at *
  go_enter Try.func30, Try.ntmps30
  go_wp2_with fail
  refine HC.out.mono ?_
  rintro e w1 ⟨v7, rfl, A7, b1⟩
  have s1 := b1.size
  obtain ⟨a7, c7, rfl, _⟩ := A7.form
  have HA := Lib.hid A7.ats
  have B1 := Lib.hid b1
  clear A7 b1 HC
  go_wp2_with fail
  go_loopg [3, 5, 9] L.length (fun gg s3 _ s9 wr => ∃ k : Nat, k ≤ L.length ∧ L.length - k ≤ gg ∧ s9 = .int .i64 k ∧ Aside (wr.ownsRow w1.heap.size 9 1 s3 k ((nmL (L.take k)).map encStr)) ∧ Aside (Below w1.heap.size w1 wr))
  case atStart => exact ⟨0, by omega, by omega, rfl, ⟨rfl, .inl ⟨rfl, rfl⟩⟩, Below.refl _ _⟩
  case round =>
    obtain ⟨k, hk, hg, rfl, O, BW⟩ := hrel
    have hs2 := BW.out.size
    by_cases hlt : k < L.length
    · have hltz : (k : Int) < (L.length : Int) := by omega
      obtain ⟨b, o, rfl, hb, hj⟩ := HA.out.spot (by omega)
      have g0 := (BW.out.cell (p := ⟨b, o + k * 2, none⟩) hb).trans (hj k hlt).1
      have g1 := (BW.out.cell (p := ⟨b, o + k * 2 + 1, none⟩) hb).trans (hj k hlt).2
      clear hj
      have HS := Lib.hid (nmL_snoc hlt)
      generalize L.getD k A0 = y at *
      obtain ⟨n, z⟩ := y
      simp only at g0 g1 HS
      have LT := Lib.hid O.out.lt
      have hbase : w1.heap.size ≤ wr.heap.size + 2 := by omega
      have OW := Lib.hid (own_below O.out (((Below.refl wr.heap.size wr).alloc (Nat.le_refl _) (.cells #[.string n, .string z] 27)).alloc (by first | omega | (simp; done) | (simp; omega)) (.cells #[.string n] 9)))
      go_wp2_with (at_builtin; refine wpList_append_str rfl (.tmp 13) (.tmp 16) rfl w1.heap.size u3 k _ rfl OW.out (wr.heap.size + 1) n rfl (by simp) (by omega) (by first | omega | (simp; done) | (simp; omega)) ?_; intro v3 w3 hown3 hg3)
      have hs3 := hg3.size
      simp at hs3
      have IN := Lib.hid (show w3.ownsRow w1.heap.size 9 1 v3 (k + 1) ((nmL (L.take (k + 1))).map encStr) by rw [HS.out]; exact hown3)
      have B3 := Lib.hid (((BW.out.alloc (by first | omega | (simp; done) | (simp; omega)) (.cells #[.string n, .string z] 27)).alloc (by first | omega | (simp; done) | (simp; omega)) (.cells #[.string n] 9)).grown hg3 (by first | omega | (simp; done) | (simp; omega)) (fun g hg => by have := (LT.out g hg).1; omega))
      clear hown3 hg3 OW
      go_wp2
      go_roundg (L.length - (k + 1))
      case measure => omega
      case rel => exact ⟨k + 1, by omega, by omega, by go_num, IN.out, B3.out⟩
    · have hltz : ¬ (k : Int) < (L.length : Int) := by omega
      obtain rfl : k = L.length := by omega
      have hO := O.out
      rw [List.take_length] at hO
      have hlen : (nmL L).length = L.length := by unfold nmL; simp
      have hfit : ∀ l ∈ nmL L, l.length ≤ maxLen := by
        intro l hl2
        unfold nmL at hl2
        obtain ⟨a, ha, rfl⟩ := List.mem_map.1 hl2
        have e : a.n.data.toList.length = a.n.size := by simp
        rw [e]; exact (HF.out a ha).1
      have HFIT := Lib.hid hfit
      by_cases hv : u3 = .slice none 0 0
      · have h0 : L.length = 0 := by
          rcases hO.2 with ⟨_, h0⟩ | ⟨g, cap, cur, hv2, _⟩
          · exact h0
          · rw [hv] at hv2; cases hv2
        subst hv
        have HL := Lib.hid (List.eq_nil_of_length_eq_zero h0)
        have c1 := Try.slices_Sort_string_none none 0 wr
        have c2 := Try.slices_Compact_string_empty none 0 wr
        clear hO h0 hlen hfit
        go_wp2_with fail
        refine c1.mono ?_
        rintro e w4 ⟨rfl, rfl⟩
        go_wp2_with fail
        refine c2.mono ?_
        rintro e w5 ⟨rfl, rfl⟩
        go_wp2
        go_ret
        exact ⟨.slice none 0 0, rfl, by rw [HL.out, namesB_nil]; exact Strs.none_ _ _, B1.out.trans (BW.out.mono s1)⟩
      · obtain ⟨g, cap, rfl, hbg, hgl, hncap, hcm, hlen2, hH⟩ := Lib.holds_of_ownsRow hO hv
        rcases hO.2 with ⟨h0, _⟩ | ⟨g', cap', cur, hv2, hbase, hb, h1, h2, h3, h4⟩
        · cases h0
        cases hv2
        have hsort := Try.slices_Sort_string g 0 cap (nmL L) wr hH hgl (by have := ht; omega)
        rw [hlen] at hsort
        have hl2 : (sortN (nmL L)).length = L.length := by unfold sortN; rw [List.length_mergeSort, hlen]
        have HSN := Lib.hid (show sortN (nmL L) = (nmL L).mergeSort fun x y => decide (x ≤ y) from rfl)
        rw [← HSN.out] at hsort
        have hO2 := fun n os => ownsRow_sorted (n := n) (os := os) (ts := sortN (nmL L)) (ss := nmL L) (by rw [hl2, hlen]) hbase hb (by rw [hlen]; exact h1) h2 h3
        have hH2 : ∀ n os, Holds encStr (grow (putRow encStr (Sort.ahead wr n) g 0 (sortN (nmL L)).toArray) os) g 0 (sortN (nmL L)).toArray := fun n os =>
          holds_grow encStr _ os g 0 _ (by simpa [putRow, mapBlock, Sort.ahead] using hgl) (holds_putRow encStr _ g 0 _ _ (holds_ahead encStr wr n g 0 _ hH) (by simp [hl2, hlen]))
        have hcl := (comp_sorted (sortN_sorted (nmL L))).2.2
        have hcomp := fun n os => Try.slices_Compact_string g 0 cap (sortN (nmL L)) _ (hH2 n os) (by rw [hl2]; have := ht; omega) (by rw [hl2]; exact h1)
        rw [hl2] at hcomp
        have hB2 : ∀ n os, Below w1.heap.size w1 (grow (putRow encStr (Sort.ahead wr n) g 0 (sortN (nmL L)).toArray) os) := fun n os =>
          BW.out.grown (grownBy_sorted _) hs2 (fun j hj => by cases hj; exact hbg)
        have hfit2 : ∀ l ∈ Lib.compact (sortN (nmL L)), l.length ≤ maxLen := fun l hl3 => by
          rw [(comp_sorted (sortN_sorted (nmL L))).2.1, sortN_mem] at hl3
          exact hfit l hl3
        have HEND : Hid (∀ n os q, NamesPost L w (.returned (.slice (some ⟨g, 0, none⟩) (Lib.compact (sortN (nmL L))).length cap)) (putRow encStr (Sort.ahead (grow (putRow encStr (Sort.ahead wr n) g 0 (sortN (nmL L)).toArray) os) q) g 0 (Lib.compact (sortN (nmL L)) ++ List.replicate (L.length - (Lib.compact (sortN (nmL L))).length) []).toArray)) := Lib.hid (by
          intro n os q
          have h5 := hO2 n os
          rw [hlen] at h5
          have h6 := Lib.ownsRow_putRow (q := q) (k := (Lib.compact (sortN (nmL L))).length) (ys := Lib.compact (sortN (nmL L)) ++ List.replicate (L.length - (Lib.compact (sortN (nmL L))).length) []) h5 (by simp; omega) (by omega)
          rw [List.take_left] at h6
          refine ⟨_, rfl, strs_own h6 hfit2 (by omega), ?_⟩
          exact B1.out.trans ((Lib.below_putRow (hB2 n os) hbg).mono s1))
        have HCOMP := Lib.hid hcomp
        have HSORT := Lib.hid hsort
        clear hcomp hsort hO hO2 hH hH2 hB2 hfit hfit2 HFIT HSN hb h4 h3 h2 hl2 hcl
        go_wp2_with fail
        refine HSORT.out.mono ?_
        rintro e w4 ⟨rfl, n, os, rfl⟩
        go_wp2_with fail
        refine (HCOMP.out n os).mono ?_
        rintro e w5 ⟨rfl, q, rfl⟩
        go_wp2
        go_ret
        exact HEND.out n os q

end Go.Proofs.Ytgbmbhcoelijfaa
