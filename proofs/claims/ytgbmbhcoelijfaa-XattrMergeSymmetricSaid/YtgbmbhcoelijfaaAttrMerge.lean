/- xattr.Merge at every three lists. Conditions: the slices' cells lie in memory as they read. -/
import Derived.Test.YtgbmbhcoelijfaaAttrDiff
import Derived.Test.YtgbmbhcoelijfaaAttrPut
namespace Go.Proofs.Ytgbmbhcoelijfaa
open Go.RowKit

/-- The value that a merge gives: o the ancestor's, p and q the two sides'. -/
def mrgV (o p q : ByteArray) : ByteArray := if p = o then q else p
def cfl (o p q : ByteArray) : Bool := decide (p ≠ o ∧ q ≠ o ∧ p ≠ q)
def mrg1 (o a b : List Attr) (nm : ByteArray) : List Attr := presA ⟨nm, mrgV (getA o nm) (getA a nm) (getA b nm)⟩
def cfl1 (o a b : List Attr) (nm : ByteArray) : List ByteArray := if cfl (getA o nm) (getA a nm) (getA b nm) = true then [nm] else []
def mrgK (o a b : List Attr) (N : List ByteArray) (k : Nat) : List Attr := (N.take k).flatMap (mrg1 o a b)
def cflK (o a b : List Attr) (N : List ByteArray) (k : Nat) : List ByteArray := (N.take k).flatMap (cfl1 o a b)
theorem mrgK_succ {o a b : List Attr} {N : List ByteArray} {k : Nat} (h : k < N.length) : mrgK o a b N (k + 1) = mrgK o a b N k ++ mrg1 o a b (N.getD k ByteArray.empty) := by
  unfold mrgK
  rw [List.take_succ_eq_append_getElem h, List.flatMap_append, strD h]
  simp
theorem cflK_succ {o a b : List Attr} {N : List ByteArray} {k : Nat} (h : k < N.length) : cflK o a b N (k + 1) = cflK o a b N k ++ cfl1 o a b (N.getD k ByteArray.empty) := by
  unfold cflK
  rw [List.take_succ_eq_append_getElem h, List.flatMap_append, strD h]
  simp
theorem mrgK_len (o a b : List Attr) (N : List ByteArray) : ∀ k, k ≤ N.length → (mrgK o a b N k).length ≤ k
  | 0, _ => by simp [mrgK]
  | k + 1, h => by
    rw [mrgK_succ (by omega), List.length_append]
    have := mrgK_len o a b N k (by omega)
    have : (mrg1 o a b (N.getD k ByteArray.empty)).length ≤ 1 := presA_len _
    omega
theorem cfl1_len (o a b : List Attr) (nm : ByteArray) : (cfl1 o a b nm).length ≤ 1 := by unfold cfl1; split <;> simp
theorem cflK_len (o a b : List Attr) (N : List ByteArray) : ∀ k, k ≤ N.length → (cflK o a b N k).length ≤ k
  | 0, _ => by simp [cflK]
  | k + 1, h => by
    rw [cflK_succ (by omega), List.length_append]
    have := cflK_len o a b N k (by omega)
    have := cfl1_len o a b (N.getD k ByteArray.empty)
    omega
theorem mrgV_fits {o a b : List Attr} (ha : ∀ e ∈ a, e.fits) (hb : ∀ e ∈ b, e.fits) (nm : ByteArray) : (mrgV (getA o nm) (getA a nm) (getA b nm)).size ≤ maxLen := by
  unfold mrgV; split
  · exact getA_fits hb nm
  · exact getA_fits ha nm
theorem mrgK_fits {o a b : List Attr} {N : List ByteArray} (ha : ∀ e ∈ a, e.fits) (hb : ∀ e ∈ b, e.fits) (hN : ∀ x ∈ N, x.size ≤ maxLen) (k : Nat) : ∀ e ∈ mrgK o a b N k, e.fits := by
  intro e he
  unfold mrgK at he
  obtain ⟨nm, h1, h2⟩ := List.mem_flatMap.1 he
  exact presA_fits ⟨hN nm (List.mem_of_mem_take h1), mrgV_fits ha hb nm⟩ e h2
theorem cflK_fits {o a b : List Attr} {N : List ByteArray} (hN : ∀ x ∈ N, x.size ≤ maxLen) (k : Nat) : ∀ x ∈ cflK o a b N k, x.size ≤ maxLen := by
  intro x hx
  unfold cflK at hx
  obtain ⟨nm, h1, h2⟩ := List.mem_flatMap.1 hx
  unfold cfl1 at h2
  split at h2
  · rw [List.mem_singleton.1 h2]; exact hN nm (List.mem_of_mem_take h1)
  · cases h2
def mrgN (o a b : List Attr) : List ByteArray := namesB [o, a, b].flatten
def mrgL (o a b : List Attr) : List Attr := mrgK o a b (mrgN o a b) (mrgN o a b).length
def cflL (o a b : List Attr) : List ByteArray := cflK o a b (mrgN o a b) (mrgN o a b).length
def mrgF (o a b : List Attr) : Int × Int := if (chkF [o, a, b]).1 = 0 then (if 6 < (mrgL o a b).length then (14, 0) else (0, 0)) else chkF [o, a, b]
def mrgO (o a b : List Attr) : List Attr := if (mrgF o a b).1 = 0 then mrgL o a b else []
def cflO (o a b : List Attr) : List ByteArray := if (mrgF o a b).1 = 0 then cflL o a b else []
def MergePost (o a b : List Attr) (w : World) (e : Ending) (w' : World) : Prop :=
  ∃ v u, e = .returned (.tuple #[v, u, faultV (mrgF o a b).1 (mrgF o a b).2]) ∧ Ats w' w'.heap.size v (mrgO o a b) ∧ Strs w' w'.heap.size u (cflO o a b) ∧ Below w.heap.size w w'
theorem merge_bad {o a b : List Attr} {c i : Int} {w w' : World} (h : mrgF o a b = (c, i)) (hc : ¬ c = 0) (hb : Below w.heap.size w w') : MergePost o a b w (.returned (.tuple #[.slice none 0 0, .slice none 0 0, faultV c i])) w' := by
  refine ⟨_, _, by rw [h], ?_, ?_, hb⟩
  · unfold mrgO; rw [h, if_neg hc]; exact Ats.none_ _ _
  · unfold cflO; rw [h, if_neg hc]; exact Strs.none_ _ _
theorem chk_three {o a b : List Attr} (h : (chkF [o, a, b]).1 = 0) : Good o ∧ Good a ∧ Good b ∧ chkF [o, a, b] = (0, 0) := by
  have hz := firstNZ_zero _ _ _ h
  have h0 : (valA o).1 = 0 := by simpa using hz 0 (by simp)
  have h1 : (valA a).1 = 0 := by simpa using hz 1 (by simp)
  have h2 : (valA b).1 = 0 := by simpa using hz 2 (by simp)
  refine ⟨good_of h0, good_of h1, good_of h2, chk_miss fun j hj => ?_⟩
  match j, hj with
  | 0, _ => exact h0
  | 1, _ => exact h1
  | 2, _ => exact h2
theorem own_strs' {w : World} {base n : Nat} {v : Value} {xs : List ByteArray} (h : w.ownsRow base 9 1 v n (xs.map Value.string)) (hf : ∀ x ∈ xs, x.size ≤ maxLen) (hl : xs.length ≤ 35184372088832) : Strs w w.heap.size v xs := by
  have e : xs.map Value.string = (xs.map (·.data.toList)).map encStr := by
    rw [List.map_map]; exact List.map_congr_left fun x _ => str_enc x
  rw [e] at h
  have := strs_own h (fun l hl2 => by
    obtain ⟨x, hx, rfl⟩ := List.mem_map.1 hl2
    have e2 : x.data.toList.length = x.size := by simp
    rw [e2]; exact hf x hx) (by simpa using hl)
  rw [List.map_map] at this
  have e3 : xs.map ((fun l : List UInt8 => (⟨l.toArray⟩ : ByteArray)) ∘ (·.data.toList)) = xs := by
    conv => rhs; rw [← List.map_id xs]
    exact List.map_congr_left fun x _ => bytes_ext (by simp)
  rwa [e3] at this
/-- A row of attributes and a row of strings lie in different blocks. -/
theorem own_ne {w : World} {base base' n m : Nat} {v u : Value} {xs ys : List Value} (h : w.ownsRow base 27 2 v n xs) (h' : w.ownsRow base' 9 1 u m ys) {g : Nat} (hv : v.ownBlock = some g) : u.ownBlock ≠ some g := by
  intro hu
  rcases h.2 with ⟨rfl, _⟩ | ⟨g1, c1, cur1, rfl, _, hg1, _⟩
  · cases hv
  · rcases h'.2 with ⟨rfl, _⟩ | ⟨g2, c2, cur2, rfl, _, hg2, _⟩
    · cases hu
    · have e1 : g1 = g := by simpa [Value.ownBlock] using hv
      have e2 : g2 = g := by simpa [Value.ownBlock] using hu
      rw [e1] at hg1
      rw [e2, hg1] at hg2
      injection hg2 with hg2
      injection hg2 with _ h3
      exact absurd h3 (by decide)
theorem own_keep {w w' : World} {base n size : Nat} {e : TypeId} {v : Value} {xs : List Value} {row : Option Nat} (h : w.ownsRow base e size v n xs) (hg : w.grownBy w' row) (hne : ∀ g, row = some g → v.ownBlock ≠ some g) : w'.ownsRow base e size v n xs :=
  h.kept hg (by
    cases hv : v.ownBlock with
    | none => exact .inl rfl
    | some g => exact .inr (fun e => hne g e.symm hv))
structure MInv (w2 wr : World) (L : List Attr) (S : List ByteArray) (v u : Value) : Prop where
  B : Below w2.heap.size w2 wr
  own : wr.ownsRow w2.heap.size 27 2 v L.length (flatA L)
  ows : wr.ownsRow w2.heap.size 9 1 u S.length (S.map Value.string)
theorem MInv.below {w2 wr w' : World} {L : List Attr} {S : List ByteArray} {v u : Value} (I : MInv w2 wr L S v u) (hb : Below wr.heap.size wr w') : MInv w2 w' L S v u :=
  ⟨I.B.trans (hb.mono I.B.size), own_below I.own hb, own_below I.ows hb⟩
theorem MInv.lay {w2 wr w' : World} {L es : List Attr} {S : List ByteArray} {v u v' : Value} {n : Nat} (I : MInv w2 wr L S v u) (hown : w'.ownsRow w2.heap.size 27 2 v' n (flatA (L ++ es))) (hg : wr.grownBy w' v.ownBlock) (hn : n = (L ++ es).length) : MInv w2 w' (L ++ es) S v' u := by
  subst hn
  exact ⟨I.B.grown hg I.B.size (fun g hgg => (I.own.lt g hgg).1), hown, own_keep I.ows hg (fun g hgg => own_ne I.own I.ows hgg)⟩
theorem MInv.says {w2 wr w' : World} {L : List Attr} {S : List ByteArray} {v u u' : Value} {x : ByteArray} {n : Nat} (I : MInv w2 wr L S v u) (hown : w'.ownsRow w2.heap.size 9 1 u' n (S.map Value.string ++ [.string x])) (hg : wr.grownBy w' u.ownBlock) (hn : n = S.length + 1) : MInv w2 w' L (S ++ [x]) v u' := by
  subst hn
  exact ⟨I.B.grown hg I.B.size (fun g hgg => (I.ows.lt g hgg).1), own_keep I.own hg (fun g hgg hv => own_ne I.own I.ows hv hgg), by simpa using hown⟩

set_option maxRecDepth 100000 in
set_option maxHeartbeats 8000000 in
theorem merge_any (v0 : Value) (o : List Attr) (v1 : Value) (a : List Attr) (v2 : Value) (b : List Attr) (w : World) (h0 : Ats w w.heap.size v0 o) (h1 : Ats w w.heap.size v1 a) (h2 : Ats w w.heap.size v2 b) :
    Calls Try.prog 21 #[v0, v1, v2] w (MergePost o a b w) := by
  have HCK := Lib.hid (fun W (v : Value) (h : Ass W W.heap.size v [v0, v1, v2] [o, a, b]) => checkLists_any v [v0, v1, v2] [o, a, b] W h)
  have HA0 := Lib.hid h0
  have HA1 := Lib.hid h1
  have HA2 := Lib.hid h2
  have HAS := Lib.hid (fun W (hb : Below w.heap.size w W) (n : Nat) (hn : n = W.heap.size) (t : TypeId) => ass_three W n hn v0 v1 v2 o a b (h0.up hb) (h1.up hb) (h2.up hb) t)
  obtain ⟨a0, c0, rfl, hc0⟩ := h0.form rfl
  obtain ⟨a1, c1, rfl, hc1⟩ := h1.form rfl
  obtain ⟨a2, c2, rfl, hc2⟩ := h2.form rfl
  clear h0 h1 h2
  unfold faultV at HCK
  by_cases hv : (chkF [o, a, b]).1 = 0
  · obtain ⟨go, ga, gb, he⟩ := chk_three hv
    have HF := Lib.hid (show mrgF o a b = if 6 < (mrgL o a b).length then (14, 0) else (0, 0) by unfold mrgF; rw [if_pos hv])
    have htot : [o, a, b].flatten.length ≤ 1000 := by have := go.len; have := ga.len; have := gb.len; simp; omega
    have HN := Lib.hid (fun W (v : Value) (h : Ass W W.heap.size v [.slice a0 o.length c0, .slice a1 a.length c1, .slice a2 b.length c2] [o, a, b]) => namesIn_any v _ [o, a, b] W h htot)
    have HVO := Lib.hid (fun W nm (hb : Below w.heap.size w W) => valueOf_any _ o nm W (HA0.out.up hb) go.srt)
    have HVA := Lib.hid (fun W nm (hb : Below w.heap.size w W) => valueOf_any _ a nm W (HA1.out.up hb) ga.srt)
    have HVB := Lib.hid (fun W nm (hb : Below w.heap.size w W) => valueOf_any _ b nm W (HA2.out.up hb) gb.srt)
    rw [he] at HCK
    have hnl := names_len [o, a, b].flatten
    have hNF := names_fits (L := [o, a, b].flatten) (fun e he => by
      simp at he
      rcases he with he | he | he
      · exact HA0.out.fits e he
      · exact HA1.out.fits e he
      · exact HA2.out.fits e he)
    unfold NamesPost at HN
    have HML := Lib.hid (show mrgL o a b = mrgK o a b (namesB [o, a, b].flatten) (namesB [o, a, b].flatten).length from rfl)
    have HCL := Lib.hid (show cflL o a b = cflK o a b (namesB [o, a, b].flatten) (namesB [o, a, b].flatten).length from rfl)
    generalize namesB [o, a, b].flatten = N at *
    have HNF := Lib.hid hNF
    have hN6 : N.length ≤ 1000 := by omega
    clear go ga gb he hv htot hnl hNF
    go_enter Try.func21, Try.ntmps21
    go_wp2_with fail
    refine (HCK.out _ _ ((HAS.out _ ((Below.refl _ _).alloc (Nat.le_refl _) _) _ (by first | omega | (simp; done) | (simp; omega)) _).more (by first | omega | (simp; done) | (simp; omega)))).mono ?_
    rintro e w1 ⟨rfl, b1⟩
    have X1 := ((FBox.new w 0 0 24).alloc (.cells #[.slice a0 o.length c0, .slice a1 a.length c1, .slice a2 b.length c2] 22)).below b1 (by first | omega | (simp; done) | (simp; omega))
    have B1 : Below w.heap.size w w1 := (((Below.refl _ _).alloc (Nat.le_refl _) _).alloc (by first | omega | (simp; done) | (simp; omega)) _).trans (b1.mono (by first | omega | (simp; done) | (simp; omega)))
    have s1 := B1.size
    have l1 := X1.lt
    clear b1
    go_wp2_with fail
    refine (HN.out _ _ ((HAS.out _ (B1.alloc s1 (.cells #[.int .i64 0, .int .i64 0] 24)) _ (by first | omega | (simp; done) | (simp; omega)) _).more (by first | omega | (simp; done) | (simp; omega)))).mono ?_
    rintro e w2 ⟨vN, rfl, S2, b2⟩
    obtain ⟨aN, cN, rfl, _⟩ := S2.form rfl
    have X2 := Lib.hid (((X1.alloc (.cells #[.int .i64 0, .int .i64 0] 24)).alloc (.cells #[.slice a0 o.length c0, .slice a1 a.length c1, .slice a2 b.length c2] 22)).below b2 (by first | omega | (simp; done) | (simp; omega)))
    have B2 := Lib.hid (((B1.alloc s1 (.cells #[.int .i64 0, .int .i64 0] 24)).alloc (by first | omega | (simp; done) | (simp; omega)) (.cells #[.slice a0 o.length c0, .slice a1 a.length c1, .slice a2 b.length c2] 22)).trans (b2.mono (by first | omega | (simp; done) | (simp; omega))))
    have HS2 := Lib.hid S2
    have s2 := B2.out.size
    have l2 := X2.out.lt
    clear b2 X1 B1 S2 HCK HN HAS
    go_wp2_with fail
    go_loopg [10, 11, 13, 14, 15, 16, 17, 33] N.length (fun gg s10 s11 _ _ _ _ _ s33 wr => ∃ k : Nat, k ≤ N.length ∧ N.length - k ≤ gg ∧ s33 = .int .i64 k ∧ Aside (MInv w2 wr (mrgK o a b N k) (cflK o a b N k) s10 s11))
    case atStart => exact ⟨0, by omega, by omega, rfl, (show MInv _ _ _ _ _ _ from ⟨Below.refl _ _, ⟨rfl, .inl ⟨rfl, rfl⟩⟩, ⟨rfl, .inl ⟨rfl, rfl⟩⟩⟩)⟩
    case round =>
      obtain ⟨k, hk, hg, rfl, I⟩ := hrel
      have hs2 := I.out.B.size
      by_cases hlt : k < N.length
      · have hltz : (k : Int) < (N.length : Int) := by omega
        obtain ⟨bn, off, rfl, hb, hj⟩ := HS2.out.spot (by omega)
        have g0 := (I.out.B.cell (p := ⟨bn, off + k, none⟩) hb).trans (hj k hlt)
        clear hj
        have HMS := Lib.hid (mrgK_succ (o := o) (a := a) (b := b) hlt)
        have HCS := Lib.hid (cflK_succ (o := o) (a := a) (b := b) hlt)
        have hnf := HNF.out (N.getD k ByteArray.empty) (by rw [strD hlt]; exact List.getElem_mem hlt)
        have hKL := mrgK_len o a b N k hk
        have hCL := cflK_len o a b N k hk
        have hMF := mrgV_fits (o := o) HA1.out.fits HA2.out.fits (N.getD k ByteArray.empty)
        generalize N.getD k ByteArray.empty = nm at *
        have cO := fun W (hW : Below w.heap.size w W) => HVO.out W nm hW
        have cA := fun W (hW : Below w.heap.size w W) => HVA.out W nm hW
        have cB := fun W (hW : Below w.heap.size w W) => HVB.out W nm hW
        have HM1 := Lib.hid (show mrg1 o a b nm = presA ⟨nm, mrgV (getA o nm) (getA a nm) (getA b nm)⟩ from rfl)
        have HC1 := Lib.hid (show cfl1 o a b nm = if cfl (getA o nm) (getA a nm) (getA b nm) = true then [nm] else [] from rfl)
        have hbw := B2.out.trans (I.out.B.mono s2)
        generalize getA o nm = go at *
        generalize getA a nm = ga at *
        generalize getA b nm = gb at *
        have HPF := Lib.hid (fun W y (hy : y.size ≤ maxLen) => present_any nm y W ⟨hnf, hy⟩)
        by_cases h1 : ga = go
        · subst h1
          have e1 : mrgV ga ga gb = gb := by unfold mrgV; rw [if_pos rfl]
          have HCF := Lib.hid (show cfl ga ga gb = false by unfold cfl; simp)
          rw [e1] at hMF HM1
          have t1 : (ga.toList == ga.toList) = true := by simp
          go_wp2_with fail
          refine (cO _ hbw).mono ?_
          rintro e w3 ⟨rfl, b3⟩
          have bw3 := hbw.trans (b3.mono hbw.size)
          go_wp2_with fail
          refine (cA _ bw3).mono ?_
          rintro e w4 ⟨rfl, b4⟩
          have bw4 := bw3.trans (b4.mono bw3.size)
          go_wp2_with fail
          refine (cB _ bw4).mono ?_
          rintro e w5 ⟨rfl, b5⟩
          have b35 := (b3.trans (b4.mono b3.size)).trans (b5.mono (b3.trans (b4.mono b3.size)).size)
          have I5 := I.out.below b35
          clear b3 b4 b5 bw3 bw4
          go_wp2_with fail
          refine (HPF.out _ _ hMF).mono ?_
          rintro e w6 ⟨v6, rfl, A6, b6⟩
          obtain ⟨a6, c6, rfl, _⟩ := A6.form rfl
          have I6 := I5.below b6
          have I6H := Lib.hid I6
          have A6H := Lib.hid A6
          have hs6 := I6.B.size
          have hp6 := presA_len ⟨nm, gb⟩
          clear b35 I5 b6 A6 I6 hbw
          go_wp2_with (at_builtin; refine wpList_append_attrs rfl (.tmp 51) (.tmp 55) rfl w2.heap.size u10 _ (mrgK o a b N k) rfl I6H.out.own _ (.slice a6 (presA ⟨nm, gb⟩).length c6) (presA ⟨nm, gb⟩) rfl A6H.out (by first | omega | (simp; done) | (simp; omega)) (by first | omega | (simp; done) | (simp; omega)) ?_; intro v7 w7 hown7 hg7)
          have I7 := Lib.hid (I6H.out.lay hown7 hg7 (by simp))
          have hs7 := I7.out.B.size
          clear hown7 hg7 A6H I6H
          go_wp2
          go_roundg (N.length - (k + 1))
          case measure => omega
          case rel => exact ⟨k + 1, by omega, by omega, by go_num, (show MInv _ _ _ _ _ _ from by rw [HMS.out, HCS.out, HM1.out, HC1.out, HCF.out]; simpa using I7.out)⟩
        · have e1 : mrgV go ga gb = ga := by unfold mrgV; rw [if_neg h1]
          rw [e1] at hMF HM1
          have t1 : (ga.toList == go.toList) = false := by rw [beq_str]; simpa using h1
          by_cases h2 : gb = go
          · have HCF := Lib.hid (show cfl go ga gb = false by unfold cfl; rw [decide_eq_false_iff_not]; exact fun h => h.2.1 h2)
            have t2 : (gb.toList == go.toList) = true := by rw [beq_str]; simpa using h2
            clear h1 h2
            go_wp2_with fail
            refine (cO _ hbw).mono ?_
            rintro e w3 ⟨rfl, b3⟩
            have bw3 := hbw.trans (b3.mono hbw.size)
            go_wp2_with fail
            refine (cA _ bw3).mono ?_
            rintro e w4 ⟨rfl, b4⟩
            have bw4 := bw3.trans (b4.mono bw3.size)
            go_wp2_with fail
            refine (cB _ bw4).mono ?_
            rintro e w5 ⟨rfl, b5⟩
            have b35 := (b3.trans (b4.mono b3.size)).trans (b5.mono (b3.trans (b4.mono b3.size)).size)
            have I5 := I.out.below b35
            clear b3 b4 b5 bw3 bw4
            go_wp2_with fail
            refine (HPF.out _ _ hMF).mono ?_
            rintro e w6 ⟨v6, rfl, A6, b6⟩
            obtain ⟨a6, c6, rfl, _⟩ := A6.form rfl
            have I6 := I5.below b6
            have I6H := Lib.hid I6
            have A6H := Lib.hid A6
            have hs6 := I6.B.size
            have hp6 := presA_len ⟨nm, ga⟩
            clear b35 I5 b6 A6 I6 hbw
            go_wp2_with (at_builtin; refine wpList_append_attrs rfl (.tmp 51) (.tmp 55) rfl w2.heap.size u10 _ (mrgK o a b N k) rfl I6H.out.own _ (.slice a6 (presA ⟨nm, ga⟩).length c6) (presA ⟨nm, ga⟩) rfl A6H.out (by first | omega | (simp; done) | (simp; omega)) (by first | omega | (simp; done) | (simp; omega)) ?_; intro v7 w7 hown7 hg7)
            have I7 := Lib.hid (I6H.out.lay hown7 hg7 (by simp))
            have hs7 := I7.out.B.size
            clear hown7 hg7 A6H I6H
            go_wp2
            go_roundg (N.length - (k + 1))
            case measure => omega
            case rel => exact ⟨k + 1, by omega, by omega, by go_num, (show MInv _ _ _ _ _ _ from by rw [HMS.out, HCS.out, HM1.out, HC1.out, HCF.out]; simpa using I7.out)⟩
          · have t2 : (gb.toList == go.toList) = false := by rw [beq_str]; simpa using h2
            by_cases h3 : ga = gb
            · have HCF := Lib.hid (show cfl go ga gb = false by unfold cfl; rw [decide_eq_false_iff_not]; exact fun h => h.2.2 h3)
              have t3 : (ga.toList == gb.toList) = true := by rw [beq_str]; simpa using h3
              clear h1 h2 h3
              go_wp2_with fail
              refine (cO _ hbw).mono ?_
              rintro e w3 ⟨rfl, b3⟩
              have bw3 := hbw.trans (b3.mono hbw.size)
              go_wp2_with fail
              refine (cA _ bw3).mono ?_
              rintro e w4 ⟨rfl, b4⟩
              have bw4 := bw3.trans (b4.mono bw3.size)
              go_wp2_with fail
              refine (cB _ bw4).mono ?_
              rintro e w5 ⟨rfl, b5⟩
              have b35 := (b3.trans (b4.mono b3.size)).trans (b5.mono (b3.trans (b4.mono b3.size)).size)
              have I5 := I.out.below b35
              clear b3 b4 b5 bw3 bw4
              go_wp2_with fail
              refine (HPF.out _ _ hMF).mono ?_
              rintro e w6 ⟨v6, rfl, A6, b6⟩
              obtain ⟨a6, c6, rfl, _⟩ := A6.form rfl
              have I6 := I5.below b6
              have I6H := Lib.hid I6
              have A6H := Lib.hid A6
              have hs6 := I6.B.size
              have hp6 := presA_len ⟨nm, ga⟩
              clear b35 I5 b6 A6 I6 hbw
              go_wp2_with (at_builtin; refine wpList_append_attrs rfl (.tmp 51) (.tmp 55) rfl w2.heap.size u10 _ (mrgK o a b N k) rfl I6H.out.own _ (.slice a6 (presA ⟨nm, ga⟩).length c6) (presA ⟨nm, ga⟩) rfl A6H.out (by first | omega | (simp; done) | (simp; omega)) (by first | omega | (simp; done) | (simp; omega)) ?_; intro v7 w7 hown7 hg7)
              have I7 := Lib.hid (I6H.out.lay hown7 hg7 (by simp))
              have hs7 := I7.out.B.size
              clear hown7 hg7 A6H I6H
              go_wp2
              go_roundg (N.length - (k + 1))
              case measure => omega
              case rel => exact ⟨k + 1, by omega, by omega, by go_num, (show MInv _ _ _ _ _ _ from by rw [HMS.out, HCS.out, HM1.out, HC1.out, HCF.out]; simpa using I7.out)⟩
            · have HCF := Lib.hid (show cfl go ga gb = true by unfold cfl; rw [decide_eq_true_iff]; exact ⟨h1, h2, h3⟩)
              have t3 : (ga.toList == gb.toList) = false := by rw [beq_str]; simpa using h3
              clear h1 h2 h3
              go_wp2_with fail
              refine (cO _ hbw).mono ?_
              rintro e w3 ⟨rfl, b3⟩
              have bw3 := hbw.trans (b3.mono hbw.size)
              go_wp2_with fail
              refine (cA _ bw3).mono ?_
              rintro e w4 ⟨rfl, b4⟩
              have bw4 := bw3.trans (b4.mono bw3.size)
              go_wp2_with fail
              refine (cB _ bw4).mono ?_
              rintro e w5 ⟨rfl, b5⟩
              have b35 := (b3.trans (b4.mono b3.size)).trans (b5.mono (b3.trans (b4.mono b3.size)).size)
              have I5 := I.out.below b35
              clear b3 b4 b5 bw3 bw4
              go_wp2_with fail
              refine (HPF.out _ _ hMF).mono ?_
              rintro e w6 ⟨v6, rfl, A6, b6⟩
              obtain ⟨a6, c6, rfl, _⟩ := A6.form rfl
              have I6 := I5.below b6
              have I6H := Lib.hid I6
              have A6H := Lib.hid A6
              have hs6 := I6.B.size
              have hp6 := presA_len ⟨nm, ga⟩
              clear b35 I5 b6 A6 I6 hbw
              go_wp2_with (at_builtin; first | (refine wpList_append_attrs rfl (.tmp 51) (.tmp 55) rfl w2.heap.size u10 _ (mrgK o a b N k) rfl I6H.out.own _ (.slice a6 (presA ⟨nm, ga⟩).length c6) (presA ⟨nm, ga⟩) rfl A6H.out (by first | omega | (simp; done) | (simp; omega)) (by first | omega | (simp; done) | (simp; omega)) ?_; intro v7 w7 hown7 hg7; have I7 := Lib.hid (I6H.out.lay hown7 hg7 (by simp)); have hs7 := I7.out.B.size; have OW7 := Lib.hid (I7.out.below ((Below.refl w7.heap.size w7).alloc (Nat.le_refl _) (.cells #[.string nm] 9))); clear hown7 hg7 A6H I6H) | (refine wpList_append_str rfl (.tmp 70) (.tmp 72) rfl w2.heap.size u11 _ _ rfl OW7.out.ows w7.heap.size nm rfl (by simp) (by first | omega | (simp; done) | (simp; omega)) (by first | omega | (simp; done) | (simp; omega)) ?_; intro v8 w8 hown8 hg8; have I8 := Lib.hid (OW7.out.says hown8 hg8 (by simp)); clear hown8 hg8) | fail)
              go_wp2
              go_roundg (N.length - (k + 1))
              case measure => omega
              case rel => exact ⟨k + 1, by omega, by omega, by go_num, (show MInv _ _ _ _ _ _ from by rw [HMS.out, HCS.out, HM1.out, HC1.out, HCF.out]; simpa using I8.out)⟩
      · have hltz : ¬ (k : Int) < (N.length : Int) := by omega
        obtain rfl : k = N.length := by omega
        have hmf : ∀ e ∈ mrgL o a b, e.fits := by rw [HML.out]; exact mrgK_fits HA1.out.fits HA2.out.fits HNF.out _
        have hml : (mrgL o a b).length ≤ N.length := by rw [HML.out]; exact mrgK_len o a b N _ (Nat.le_refl _)
        have hcf : ∀ x ∈ cflL o a b, x.size ≤ maxLen := by rw [HCL.out]; exact cflK_fits HNF.out _
        have hcl : (cflL o a b).length ≤ N.length := by rw [HCL.out]; exact cflK_len o a b N _ (Nat.le_refl _)
        have IM := I.out
        rw [← HML.out, ← HCL.out] at IM
        have hbw := B2.out.trans (I.out.B.mono s2)
        have hbs := hbw.size
        obtain ⟨l1, x0, x1, f0, f1⟩ := X2.out.below I.out.B l2
        obtain ⟨a10, c10, rfl, _⟩ := (ats_own IM.own hmf (by omega)).form rfl
        have IH := Lib.hid IM
        have HMF := Lib.hid hmf
        have HCF := Lib.hid hcf
        clear I IM hmf hcf
        by_cases hl : 6 < (mrgL o a b).length
        · rw [if_pos hl] at HF
          clear IH HMF HCF
          generalize (mrgL o a b).length = m at *
          have hlz : (6 : Int) < (m : Int) := by omega
          go_wp2
          refine bodyPost_ret (v := .tuple #[.slice none 0 0, .slice none 0 0, faultV 14 0]) (by simp [results, Try.results21, faultV, go_sem, x0, x1]; try rfl) rfl (merge_bad HF.out (by omega) ?_)
          exact (hbw.setCell (by first | omega | (simp; done) | (simp; omega)) _).setCell (by first | omega | (simp; done) | (simp; omega)) _
        · rw [if_neg hl] at HF
          have hne1 : ∀ u' : Value, ∀ n size e xs, World.ownsRow wr w2.heap.size e size u' n xs → ∀ (x y : Value), World.ownsRow ((wr.setCell ⟨w.heap.size, 0, none⟩ x).setCell ⟨w.heap.size, 1, none⟩ y) w2.heap.size e size u' n xs := fun u' n size e xs h x y => by
            refine ownsRow_setCell_other (ownsRow_setCell_other h (a := ⟨w.heap.size, 0, none⟩) (fun e1 => ?_) x) (a := ⟨w.heap.size, 1, none⟩) (fun e1 => ?_) y
            · have h9 : w2.heap.size ≤ w.heap.size := (h.lt _ e1).1; omega
            · have h9 : w2.heap.size ≤ w.heap.size := (h.lt _ e1).1; omega
          have HV1 := Lib.hid (ats_own (hne1 _ _ _ _ _ IH.out.own (.int .i64 0) (.int .i64 0)) HMF.out (by omega))
          have HV2 := Lib.hid (own_strs' (hne1 _ _ _ _ _ IH.out.ows (.int .i64 0) (.int .i64 0)) HCF.out (by omega))
          clear hne1
          generalize hm : (mrgL o a b).length = m at *
          have hlz : decide ((6 : Int) < (m : Int)) = false := by simp; omega
          go_wp2
          refine bodyPost_ret (v := .tuple #[.slice a10 m c10, u11, faultV 0 0]) (by simp [results, Try.results21, faultV, go_sem, x0, x1]; try rfl) rfl ⟨.slice a10 m c10, u11, by rw [HF.out], ?_, ?_, (hbw.setCell (by first | omega | (simp; done) | (simp; omega)) _).setCell (by first | omega | (simp; done) | (simp; omega)) _⟩
          · have e : mrgO o a b = mrgL o a b := by unfold mrgO; rw [HF.out, if_pos rfl]
            rw [e]; exact HV1.out
          · have e : cflO o a b = cflL o a b := by unfold cflO; rw [HF.out, if_pos rfl]
            rw [e]; exact HV2.out
  · have HF := Lib.hid (show mrgF o a b = ((chkF [o, a, b]).1, (chkF [o, a, b]).2) by unfold mrgF; rw [if_neg hv])
    generalize (chkF [o, a, b]).1 = d at *
    generalize (chkF [o, a, b]).2 = i at *
    have hd1 : (d != 0) = true := by simpa using hv
    have hd2 : (d == 0) = false := by simpa using hv
    have HD := Lib.hid hv
    clear hv
    go_enter Try.func21, Try.ntmps21
    go_wp2_with fail
    refine (HCK.out _ _ ((HAS.out _ ((Below.refl _ _).alloc (Nat.le_refl _) _) _ (by first | omega | (simp; done) | (simp; omega)) _).more (by first | omega | (simp; done) | (simp; omega)))).mono ?_
    rintro e w1 ⟨rfl, b1⟩
    obtain ⟨l1, x0, x1, f0, f1⟩ := ((FBox.new w 0 0 24).alloc (.cells #[.slice a0 o.length c0, .slice a1 a.length c1, .slice a2 b.length c2] 22)).below b1 (by first | omega | (simp; done) | (simp; omega))
    have B1 : Below w.heap.size w w1 := (((Below.refl _ _).alloc (Nat.le_refl _) _).alloc (by first | omega | (simp; done) | (simp; omega)) _).trans (b1.mono (by first | omega | (simp; done) | (simp; omega)))
    clear b1
    go_wp2
    go_region
    all_goals
      go_wp2
      refine bodyPost_ret (v := .tuple #[.slice none 0 0, .slice none 0 0, faultV d i]) (by simp [results, Try.results21, faultV, go_sem, x0, x1, l1]; try rfl) rfl (merge_bad HF.out HD.out ?_)
      have := B1.size
      repeat (first | exact B1 | refine Below.setCell ?_ (by first | omega | (simp; done) | (simp; omega)) _ | refine Below.alloc ?_ (by first | omega | (simp; done) | (simp; omega)) _ | refine Below.drew ?_)

end Go.Proofs.Ytgbmbhcoelijfaa
