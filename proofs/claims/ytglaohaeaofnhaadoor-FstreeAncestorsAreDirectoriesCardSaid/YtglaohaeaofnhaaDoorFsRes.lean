/- What Lookup returns, in plain words; the reference's Resolve at every valid tree and list of components. Conditions: the tree's inodes are valid by themselves; the cells lie in memory as they read. -/
import Derived.Test.YtglaohaeaofnhaaDoorFsFind
import Derived.Test.YtglaohaeaofnhaaDoorFsRefs
import Derived.Test.YtglaohaeaofnhaaDoorPathSplit
import Derived.OwnWalk
import Derived.Deep.Quiet
namespace Go.Proofs.YtglaohaeaofnhaaDoor
open Go.RowKit

/-- The walk along components from an inode: the inode, the code and the place of the fault. -/
def resT (t : Tr) : List ByteArray → Nat → Nat → Nat × Int × Nat
  | [], n, _ => (n, 0, 0)
  | x :: r, n, i => if (nod t n).k = 2 then (0, 8, i) else if fndE (kids t n) x = true then resT t r ((kids t n).getD (lowE (kids t n) x) D0).i.toNat (i + 1) else (0, 6, i)
theorem resT_file {t : Tr} {xs : List ByteArray} {n i : Nat} (h : i < xs.length) (hk : (nod t n).k = 2) : resT t (xs.drop i) n i = (0, 8, i) := by
  rw [List.drop_eq_getElem_cons h, resT, if_pos hk]
theorem resT_miss {t : Tr} {xs : List ByteArray} {n i : Nat} (h : i < xs.length) (hk : (nod t n).k ≠ 2) (hf : fndE (kids t n) (xs.getD i ByteArray.empty) = false) : resT t (xs.drop i) n i = (0, 6, i) := by
  rw [getD_eq h] at hf
  rw [List.drop_eq_getElem_cons h, resT, if_neg hk, if_neg (by rw [hf]; simp)]
theorem resT_hit {t : Tr} {xs : List ByteArray} {n i : Nat} (h : i < xs.length) (hk : (nod t n).k ≠ 2) (hf : fndE (kids t n) (xs.getD i ByteArray.empty) = true) : resT t (xs.drop i) n i = resT t (xs.drop (i + 1)) ((kids t n).getD (lowE (kids t n) (xs.getD i ByteArray.empty)) D0).i.toNat (i + 1) := by
  rw [getD_eq h] at hf ⊢
  rw [List.drop_eq_getElem_cons h, resT, if_neg hk, if_pos hf]
theorem resT_end {t : Tr} {xs : List ByteArray} {n : Nat} : resT t (xs.drop xs.length) n xs.length = (n, 0, 0) := by
  rw [List.drop_length, resT]
/-- What is known of an entry that is found. -/
theorem kid_found {t : Tr} (h1 : Ok1 t) {n : Nat} {x : ByteArray} (hf : fndE (kids t n) x = true) : lowE (kids t n) x < (kids t n).length ∧ 0 < ((kids t n).getD (lowE (kids t n) x) D0).i ∧ ((kids t n).getD (lowE (kids t n) x) D0).i.toNat < t.length ∧ (nod t ((kids t n).getD (lowE (kids t n) x) D0).i.toNat).k ≠ 0 := by
  have h2 := h1.kid ((found_iff (h1.fine n).srt).1 hf).1
  exact ⟨(fndE_iff.1 hf).1, h2.2.1, h2.2.2.1, h2.2.2.2.1⟩
/-- The inode that the reference's loop over the first k entries leaves. -/
def Last (es : List DE) (x : ByteArray) (k : Nat) (to : Int) : Prop := ((∀ e ∈ es.take k, e.n ≠ x) ∧ to = -1) ∨ ∃ e ∈ es.take k, e.n = x ∧ to = e.i
theorem last_zero (es : List DE) (x : ByteArray) : Last es x 0 (-1) := .inl ⟨by simp, rfl⟩
theorem last_hit {es : List DE} {x : ByteArray} {k : Nat} {i : Int} {y : ByteArray} (hk : k < es.length) (hy : es.getD k D0 = ⟨y, i⟩) (he : y = x) : Last es x (k + 1) i :=
  .inr ⟨es.getD k D0, by rw [List.take_succ_eq_append_getElem hk, deD hk]; exact List.mem_append_right _ (List.mem_singleton.2 rfl), by rw [hy]; exact he, by rw [hy]⟩
theorem last_miss {es : List DE} {x : ByteArray} {k : Nat} {to i : Int} {y : ByteArray} (h : Last es x k to) (hk : k < es.length) (hy : es.getD k D0 = ⟨y, i⟩) (he : y ≠ x) : Last es x (k + 1) to := by
  rw [deD hk] at hy
  rcases h with ⟨h1, h2⟩ | ⟨e, h1, h2, h3⟩
  · refine .inl ⟨fun e he2 => ?_, h2⟩
    rw [List.take_succ_eq_append_getElem hk] at he2
    rcases List.mem_append.1 he2 with h4 | h4
    · exact h1 e h4
    · obtain rfl : e = es[k] := by simpa using h4
      rw [hy]; exact he
  · exact .inr ⟨e, by rw [List.take_succ_eq_append_getElem hk]; exact List.mem_append_left _ h1, h2, h3⟩
theorem last_end {es : List DE} {x : ByteArray} {to : Int} (h : Last es x es.length to) (hs : SrtE es) : (fndE es x = true → to = (es.getD (lowE es x) D0).i) ∧ (fndE es x = false → to = -1) := by
  unfold Last at h
  rw [List.take_length] at h
  constructor
  · intro hf
    obtain ⟨h1, h2⟩ := (found_iff hs).1 hf
    rcases h with ⟨h3, _⟩ | ⟨e, h3, h4, h5⟩
    · exact absurd h2 (h3 _ h1)
    · rw [h5, entry_same hs h3 h1 (by rw [h4, h2])]
  · intro hf
    rcases h with ⟨_, h3⟩ | ⟨e, h3, h4, _⟩
    · exact h3
    · exact absurd h4 ((found_iff hs).2 hf e h3)

set_option maxRecDepth 100000 in
set_option maxHeartbeats 3200000 in
theorem refResolve_any (a : Option Addr) (c : Nat) (t : Tr) (v : Value) (xs : List ByteArray) (w : World) (h1 : Ok1 t) (h : Nods w w.heap.size a c t) (hx : Strs w w.heap.size v xs) :
    Calls Tryd.prog 16 #[.agg #[.slice a t.length c], v] w fun e w' => e = .returned (.tuple #[.int .i64 ((resT t xs 0 0).1 : Nat), .int .i64 (resT t xs 0 0).2.1, .int .i64 ((resT t xs 0 0).2.2 : Nat)]) ∧ Below w.heap.size w w' := by
  have H := Lib.hid h
  have H1 := Lib.hid h1
  have HX := Lib.hid hx
  obtain ⟨xa, xc, rfl, hxc, hxl, _, _⟩ := hx
  have hne := h1.ne
  have hrk : (nod t 0).k ≠ 0 := by rw [h1.root]; decide
  have HK0 := Lib.hid hrk
  clear h h1 hrk
  generalize hR : resT t xs 0 0 = R at *
  have HR := Lib.hid hR
  clear hR
  have T0 := Lib.hid (One.new w (.slice a t.length c) 24)
  have B0 := Lib.hid ((Below.refl w.heap.size w).alloc (Nat.le_refl _) (.cells #[.slice a t.length c] 24))
  go_enter Tryd.func16, Tryd.ntmps16
  go_wp2_with fail
  go_loopg [7, 8, 9, 10] xs.length (fun gg s7 s8 _ _ wr => ∃ i n : Nat, i ≤ xs.length ∧ xs.length - i ≤ gg ∧ s7 = .int .i64 n ∧ s8 = .int .i64 i ∧ n < t.length ∧ Aside ((nod t n).k ≠ 0) ∧ Aside (Below w.heap.size w wr) ∧ Aside (One wr w.heap.size (.slice a t.length c)) ∧ Aside (resT t (xs.drop i) n i = R))
  case atStart => exact ⟨0, 0, by omega, by omega, rfl, rfl, hne, HK0.out, B0.out, T0.out, (show resT t (xs.drop 0) 0 0 = R from HR.out)⟩
  case round =>
    obtain ⟨i, n, hi, hg, rfl, rfl, hn, K0, B, T, RE⟩ := hrel
    clear T0 B0 HR HK0
    obtain ⟨w2, rfl⟩ : ∃ w2 : World, w2 = wr := ⟨_, rfl⟩
    have tc := T.out.c0
    have tl := T.out.lt
    by_cases hlt : i < xs.length
    · have hltz : (i : Int) < (xs.length : Int) := by omega
      have hi0 : (0 : Int) ≤ (i : Int) := Int.natCast_nonneg _
      have hm9 : xs.length - (i + 1) < xs.length - i := Nat.sub_lt_sub_left hlt (Nat.lt_succ_self i)
      have nlz : (n : Int) < (t.length : Int) := by omega
      have nz : (0 : Int) ≤ (n : Int) := Int.natCast_nonneg _
      obtain ⟨b, o, ve, vd, va, vx, rfl, hb, hc, hs⟩ := (H.out.below B.out).one hn
      obtain ⟨ea, ec, rfl, hec, hel, hef, hex⟩ := hs.es
      have h0 := hc.c0
      have h2 := hc.c2
      change (kids t n).length ≤ ec at hec
      change (kids t n).length ≤ 35184372088832 at hel
      change w2.cell? ⟨b, o + n * 8 + 2, none⟩ = some (.slice ea (kids t n).length ec) at h2
      have HEX := Lib.hid (show 0 < (kids t n).length → ∃ b o, ea = some ⟨b, o, none⟩ ∧ b < w.heap.size ∧ ∀ j, j < (kids t n).length →
        w2.cell? ⟨b, o + j * 2, none⟩ = some (.string ((kids t n).getD j D0).n) ∧ w2.cell? ⟨b, o + j * 2 + 1, none⟩ = some (.int .i64 ((kids t n).getD j D0).i) from hex)
      have hkind := (H1.out.fine n).kind
      have SRT := Lib.hid (show SrtE (kids t n) from (H1.out.fine n).srt)
      have HFD := Lib.hid (fun x => kid_found H1.out (n := n) (x := x))
      have RF := Lib.hid (fun (hk : (nod t n).k = 2) => resT_file (t := t) hlt hk)
      have RM := Lib.hid (fun (hk : (nod t n).k ≠ 2) hf => resT_miss (t := t) hlt hk hf)
      have RH := Lib.hid (fun (hk : (nod t n).k ≠ 2) hf => resT_hit (t := t) hlt hk hf)
      obtain ⟨xb, xo, rfl, hxb, hxj⟩ := strs_at HX.out (by omega)
      have x0 := (B.out.cell (p := ⟨xb, xo + i, none⟩) hxb).trans (hxj i hlt)
      clear hc hs hef hex hxj
      generalize xs.getD i ByteArray.empty = x at *
      have hkk : (nod t n).k = 1 ∨ (nod t n).k = 2 := by
        rcases hkind with h9 | h9 | h9
        · exact absurd h9 K0.out
        · exact .inl h9
        · exact .inr h9
      clear hkind
      rcases hkk with hk | hk
      · rw [hk] at h0
        have RM2 := Lib.hid (fun hf => RM.out (by rw [hk]; decide) hf)
        have RH2 := Lib.hid (fun hf => RH.out (by rw [hk]; decide) hf)
        clear hk RM RH RF
        generalize hm : (kids t n).length = m at *
        go_wp2_with fail
        go_loopg [9, 10] m (fun gg s9 s10 wq => ∃ (k : Nat) (to : Int), k ≤ m ∧ m - k ≤ gg ∧ s9 = .int .i64 to ∧ s10 = .int .i64 k ∧ Aside (Last (kids t n) x k to) ∧ Aside (∃ q, wq = w2.drewN q))
        case atStart => exact ⟨0, -1, by omega, by omega, rfl, rfl, last_zero _ _, ⟨0, rfl⟩⟩
        case round =>
          obtain ⟨k, to, hk, hg2, rfl, rfl, LA, hw⟩ := hrel
          obtain ⟨q, rfl⟩ := hw.out
          clear hw
          by_cases hlk : k < m
          · have hlkz : (k : Int) < (m : Int) := by omega
            have hk0 : (0 : Int) ≤ (k : Int) := Int.natCast_nonneg _
            obtain ⟨be, oe, rfl, hbe, hje⟩ := HEX.out (by omega)
            have e0 := (hje k hlk).1
            have e1 := (hje k hlk).2
            clear hje
            generalize hy : (kids t n).getD k D0 = y at e0 e1
            obtain ⟨y, yi⟩ := y
            simp only at e0 e1
            have Y := Lib.hid hy
            have HM := Lib.hid hm
            clear hy
            by_cases hyx : y = x
            · have hb1 : (y.toList == x.toList) = true := by rw [beq_str]; simpa using hyx
              have LB := Lib.hid (last_hit (x := x) (by rw [HM.out]; exact hlk) Y.out hyx)
              clear hyx
              go_wp2_with fail
              go_quiet (fail)
              go_wp2_with fail
              go_roundg (m - (k + 1))
              case measure => omega
              case rel => exact ⟨k + 1, yi, by omega, by omega, rfl, by go_num, LB.out, (show Aside _ from ⟨q + nq, rfl⟩)⟩
            · have hb1 : (y.toList == x.toList) = false := by rw [beq_str]; simpa using hyx
              have LB := Lib.hid (last_miss LA.out (by rw [HM.out]; exact hlk) Y.out hyx)
              clear hyx
              go_wp2_with fail
              go_quiet (fail)
              go_wp2_with fail
              go_roundg (m - (k + 1))
              case measure => omega
              case rel => exact ⟨k + 1, to, by omega, by omega, rfl, by go_num, LB.out, (show Aside _ from ⟨q + nq, rfl⟩)⟩
          · obtain rfl : k = m := by omega
            have HE := Lib.hid (last_end (x := x) (to := to) (by rw [hm]; exact LA.out) SRT.out)
            cases hf : fndE (kids t n) x with
            | true =>
              have hto := HE.out.1 hf
              obtain ⟨hl9, hi9, hn9, hk9⟩ := HFD.out x hf
              have RE2 := Lib.hid ((RH2.out hf).symm.trans RE.out)
              generalize ((kids t n).getD (lowE (kids t n) x) D0).i = ei at *
              subst hto
              obtain ⟨n2, rfl⟩ := Int.eq_ofNat_of_zero_le (Int.le_of_lt hi9)
              simp only [Int.toNat_natCast] at hn9 hk9 RE2
              have K9 := Lib.hid hk9
              have hnn : decide ((n2 : Int) < 0) = false := by rw [decide_eq_false_iff_not]; omega
              clear hf hk9 hl9 HE
              go_wp2_with fail
              go_roundg (xs.length - (i + 1))
              case measure => exact Nat.lt_of_lt_of_le hm9 hg
              case rel => exact ⟨i + 1, n2, by omega, by omega, rfl, by go_num, hn9, K9.out, (show Aside _ from below_drewN B.out q), (show Aside _ from ⟨T.out.lt, T.out.c0, T.out.f0⟩), RE2.out⟩
            | false =>
              have hto := HE.out.2 hf
              subst hto
              have RE2 := Lib.hid ((RM2.out hf).symm.trans RE.out)
              have hRR := RE2.out.symm
              subst hRR
              clear hf HE
              go_wp2_with fail
              go_ret3
              exact ⟨rfl, below_drewN B.out q⟩
      · rw [hk] at h0
        have hRR := ((RF.out hk).symm.trans RE.out).symm
        subst hRR
        clear hk RM RH RF
        go_wp2_with fail
        go_ret3
        exact ⟨rfl, B.out⟩
    · obtain rfl : i = xs.length := by omega
      have hRR := ((resT_end (t := t) (xs := xs) (n := n)).symm.trans RE.out).symm
      subst hRR
      go_wp2_with fail
      go_ret3
      exact ⟨rfl, B.out⟩

end Go.Proofs.YtglaohaeaofnhaaDoor
