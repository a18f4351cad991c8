/- Plain facts: simplifying a valid list keeps every user's permissions, never adds entries, and done twice is the same as once. -/
import Derived.Test.YtbmcfhojhngpkaaAclRefSimp0
namespace Go.Proofs.Ytbmcfhojhngpkaa
open Go.RowKit

theorem pw_congr {p q : Int → Bool} (h : ∀ m, prm m = true → p m = q m) : pw p 4 = pw q 4 := by
  rw [pw_B, pw_B, h 1 rfl, h 2 rfl, h 4 rfl, h 8 rfl]
theorem pwB_bd : ∀ b1 b2 b4 b8 : Bool, 0 ≤ pwB b1 b2 b4 b8 ∧ pwB b1 b2 b4 b8 ≤ 15 := by decide +kernel
theorem pw_bd (p : Int → Bool) : 0 ≤ pw p 4 ∧ pw p 4 ≤ 15 := by rw [pw_B]; exact pwB_bd _ _ _ _
def bsel (k : Fin 4) (b1 b2 b4 b8 : Bool) : Bool := match k with | 0 => b1 | 1 => b2 | 2 => b4 | 3 => b8
theorem andnot_fin : ∀ a : Fin 16, ∀ b1 b2 b4 b8 : Bool, ∀ k : Fin 4, bits .and .i64 (bits .andNot .i64 ((a.val : Nat) : Int) (pwB b1 b2 b4 b8)) ((2 ^ k.val : Nat) : Int) = if bsel k b1 b2 b4 b8 then 0 else bits .and .i64 ((a.val : Nat) : Int) ((2 ^ k.val : Nat) : Int) := by
  decide +kernel
theorem bsel_p (p : Int → Bool) (k : Fin 4) : bsel k (p 1) (p 2) (p 4) (p 8) = p ((2 ^ k.val : Nat) : Int) := by
  match k with
  | 0 => rfl
  | 1 => rfl
  | 2 => rfl
  | 3 => rfl
theorem andnot_bit {a m : Int} {p : Int → Bool} (h0 : 0 ≤ a) (h1 : a ≤ 15) (hm : prm m = true) : bits .and .i64 (bits .andNot .i64 a (pw p 4)) m = if p m then 0 else bits .and .i64 a m := by
  obtain ⟨k, rfl⟩ := prm_pow hm
  obtain ⟨A, rfl⟩ := Int.eq_ofNat_of_zero_le h0
  rw [pw_B, ← bsel_p p k]
  exact andnot_fin ⟨A, by omega⟩ _ _ _ _ k
theorem andnot_bd_fin : ∀ a u : Fin 16, 0 ≤ bits .andNot .i64 ((a.val : Nat) : Int) ((u.val : Nat) : Int) ∧ bits .andNot .i64 ((a.val : Nat) : Int) ((u.val : Nat) : Int) ≤ 15 := by decide +kernel
theorem andnot_bd {a U : Int} (h0 : 0 ≤ a) (h1 : a ≤ 15) (h2 : 0 ≤ U) (h3 : U ≤ 15) : 0 ≤ bits .andNot .i64 a U ∧ bits .andNot .i64 a U ≤ 15 := by
  obtain ⟨A, rfl⟩ := Int.eq_ofNat_of_zero_le h0
  obtain ⟨V, rfl⟩ := Int.eq_ofNat_of_zero_le h2
  exact andnot_bd_fin ⟨A, by omega⟩ ⟨V, by omega⟩
theorem dis_fin : ∀ a d u : Fin 16, bits .and .i64 ((a.val : Nat) : Int) ((d.val : Nat) : Int) = 0 → bits .and .i64 (bits .andNot .i64 ((a.val : Nat) : Int) ((u.val : Nat) : Int)) (bits .andNot .i64 ((d.val : Nat) : Int) ((u.val : Nat) : Int)) = 0 := by decide +kernel
theorem same_fin : ∀ a : Fin 16, ∀ b1 b2 b4 b8 : Bool, (∀ k : Fin 4, bits .and .i64 ((a.val : Nat) : Int) ((2 ^ k.val : Nat) : Int) ≠ 0 → bsel k b1 b2 b4 b8 = false) → bits .andNot .i64 ((a.val : Nat) : Int) (pwB b1 b2 b4 b8) = ((a.val : Nat) : Int) := by
  decide +kernel
theorem same_bits {a : Int} {p : Int → Bool} (h0 : 0 ≤ a) (h1 : a ≤ 15) (h : ∀ m, prm m = true → bits .and .i64 a m ≠ 0 → p m = false) : bits .andNot .i64 a (pw p 4) = a := by
  obtain ⟨A, rfl⟩ := Int.eq_ofNat_of_zero_le h0
  rw [pw_B]
  refine same_fin ⟨A, by omega⟩ _ _ _ _ fun k hk => ?_
  rw [bsel_p]
  exact h _ (by match k with | 0 => rfl | 1 => rfl | 2 => rfl | 3 => rfl) hk

theorem strip_ok {e : Ent} (h : Ok e) {p : Int → Bool} (hk : keepE (strip e (pw p 4)) = true) : Ok (strip e (pw p 4)) := by
  obtain ⟨h1, h2, h3, h4, h5, h6, h7, h8⟩ := h
  have hb := pw_bd p
  have hA := andnot_bd h3 h4 hb.1 hb.2
  have hD := andnot_bd h5 h6 hb.1 hb.2
  refine ⟨h1, h2, hA.1, hA.2, hD.1, hD.2, ?_, ?_⟩
  · obtain ⟨u, a, d⟩ := e
    simp only at h3 h4 h5 h6 h7
    unfold strip
    simp only
    obtain ⟨A, rfl⟩ := Int.eq_ofNat_of_zero_le h3
    obtain ⟨D, rfl⟩ := Int.eq_ofNat_of_zero_le h5
    generalize pw p 4 = U at *
    obtain ⟨V, rfl⟩ := Int.eq_ofNat_of_zero_le hb.1
    exact dis_fin ⟨A, by omega⟩ ⟨D, by omega⟩ ⟨V, by omega⟩ h7
  · have hk' : (bits .or .i64 (bits .andNot .i64 e.a (pw p 4)) (bits .andNot .i64 e.d (pw p 4)) != 0) = true := hk
    rw [keep_sum hA.1 hA.2 hD.1 hD.2, decide_eq_true_iff] at hk'
    show bits .andNot .i64 e.a (pw p 4) + bits .andNot .i64 e.d (pw p 4) ≠ 0
    omega
/-- Entry s has m exactly where e has it and p does not say that it is useless. -/
theorem strip_app {e : Ent} (h : Ok e) {p : Int → Bool} {x m : Int} (hm : prm m = true) (hk : keepE (strip e (pw p 4)) = true) : app (strip e (pw p 4)) x m = (app e x m && !p m) := by
  have hs := strip_ok h hk
  have h1 := (ok_bit hs hm).1
  have h2 := (ok_bit h hm).1
  have ca : bits .and .i64 (strip e (pw p 4)).a m = if p m then 0 else bits .and .i64 e.a m := andnot_bit h.a0 h.a15 hm
  have cd : bits .and .i64 (strip e (pw p 4)).d m = if p m then 0 else bits .and .i64 e.d m := andnot_bit h.d0 h.d15 hm
  have cc : cov (strip e (pw p 4)) x = cov e x := rfl
  unfold app
  rw [h1, h2, ca, cd, cc]
  cases p m <;> simp
theorem strip_gone {e : Ent} (h : Ok e) {p : Int → Bool} {x m : Int} (hm : prm m = true) (hk : keepE (strip e (pw p 4)) = false) (hp : p m = false) : app e x m = false := by
  have hb := pw_bd p
  have hA := andnot_bd h.a0 h.a15 hb.1 hb.2
  have hD := andnot_bd h.d0 h.d15 hb.1 hb.2
  have ca : bits .and .i64 (bits .andNot .i64 e.a (pw p 4)) m = if p m then 0 else bits .and .i64 e.a m := andnot_bit h.a0 h.a15 hm
  have cd : bits .and .i64 (bits .andNot .i64 e.d (pw p 4)) m = if p m then 0 else bits .and .i64 e.d m := andnot_bit h.d0 h.d15 hm
  unfold keepE strip at hk
  simp only at hk
  rw [keep_sum hA.1 hA.2 hD.1 hD.2, decide_eq_false_iff_not] at hk
  have zA : bits .andNot .i64 e.a (pw p 4) = 0 := by omega
  have zD : bits .andNot .i64 e.d (pw p 4) = 0 := by omega
  have z0 : bits .and .i64 0 m = 0 := (bit_self hm).2.2.1
  rw [zA, z0, hp] at ca
  rw [zD, z0, hp] at cd
  simp at ca cd
  unfold app
  rw [(ok_bit h hm).1, ← ca, ← cd]
  simp

/-- What the first entry that applies says. -/
def fd : List Ent → Int → Int → Option Bool
  | [], _, _ => none
  | e :: l, x, m => if app e x m then some (bits .and .i64 e.a m != 0) else fd l x m
theorem decL_fd (o x m : Int) : ∀ l : List Ent, decL l o x m = (fd l x m).getD (decide (x = o))
  | [] => rfl
  | e :: l => by
    unfold decL fd
    cases h : app e x m with
    | true => rfl
    | false => simpa using decL_fd o x m l
theorem fd_append (x m : Int) : ∀ l r : List Ent, fd (l ++ r) x m = (fd l x m).or (fd r x m)
  | [], r => by simp [fd]
  | e :: l, r => by
    have e1 : ∀ l, fd (e :: l) x m = if app e x m then some (bits .and .i64 e.a m != 0) else fd l x m := fun _ => rfl
    rw [List.cons_append, e1, e1]
    cases h : app e x m with
    | true => rfl
    | false => simpa using fd_append x m l r
theorem fd_some (x m : Int) : ∀ l : List Ent, (fd l x m).isSome = l.any (app · x m)
  | [] => rfl
  | e :: l => by
    unfold fd
    cases h : app e x m with
    | true => simp [h]
    | false => simpa [h] using fd_some x m l

theorem fd_simp {xs : List Ent} (hok : ∀ e ∈ xs, Ok e) {x m : Int} (hx1 : 1 ≤ x) (hx7 : x ≤ 7) (hm : prm m = true) : ∀ k, k ≤ xs.length → fd (simpK xs k) x m = fd (xs.take k) x m
  | 0, _ => by simp [simpK]
  | k + 1, h => by
    have ih := fd_simp hok hx1 hx7 hm k (by omega)
    have hk : k < xs.length := by omega
    have he := hok (xs.getD k E0) (by rw [entD hk]; exact List.getElem_mem hk)
    have ht : xs.take (k + 1) = xs.take k ++ [xs.getD k E0] := by rw [List.take_succ_eq_append_getElem hk, entD hk]
    rw [ht, fd_append]
    conv => lhs; unfold simpK
    rw [fd_append, ih]
    cases hf : fd (xs.take k) x m with
    | some b => rfl
    | none =>
      rw [Option.none_or, Option.none_or]
      have hany : (xs.take k).any (app · x m) = false := by rw [← fd_some, hf]; rfl
      generalize xs.getD k E0 = e at *
      unfold usel
      cases hp : nev e (xs.take k) m with
      | true =>
        have ha : app e x m = false := by
          have hn : need e (xs.take k) m x = false := by
            cases hz : need e (xs.take k) m x with
            | false => rfl
            | true =>
              have h9 := nev_hit hx1 hx7 hz
              rw [hp] at h9; cases h9
          unfold need at hn
          rw [hany] at hn
          simp at hn
          unfold app; rw [hn]; rfl
        cases hkp : keepE (strip e (pw (nev e (xs.take k)) 4)) with
        | true =>
          have hs := strip_app (x := x) he hm hkp
          rw [ha, Bool.false_and] at hs
          simp [fd, hs, ha]
        | false => simp [fd, ha]
      | false =>
        cases hkp : keepE (strip e (pw (nev e (xs.take k)) 4)) with
        | true =>
          have hs := strip_app (x := x) he hm hkp
          rw [hp] at hs
          have ca : bits .and .i64 (strip e (pw (nev e (xs.take k)) 4)).a m = bits .and .i64 e.a m := by
            have := andnot_bit (p := nev e (xs.take k)) he.a0 he.a15 hm
            rw [hp] at this
            show bits .and .i64 (bits .andNot .i64 e.a (pw (nev e (xs.take k)) 4)) m = _
            simpa using this
          cases ha : app e x m with
          | true => rw [ha] at hs; simp at hs; simp [fd, hs, ha, ca]
          | false => rw [ha] at hs; simp at hs; simp [fd, hs, ha]
        | false =>
          have ha := strip_gone (x := x) he hm hkp hp
          simp [fd, ha]

theorem simpK_ok {xs : List Ent} (hok : ∀ e ∈ xs, Ok e) : ∀ k, k ≤ xs.length → ∀ e ∈ simpK xs k, Ok e
  | 0, _ => by unfold simpK; simp
  | k + 1, h => by
    have hk : k < xs.length := by omega
    have he := hok (xs.getD k E0) (by rw [entD hk]; exact List.getElem_mem hk)
    cases hkp : keepE (strip (xs.getD k E0) (usel (xs.getD k E0) (xs.take k))) with
    | true =>
      rw [simpK_yes rfl rfl hkp]
      intro e hm
      rcases List.mem_append.1 hm with hm | hm
      · exact simpK_ok hok k (by omega) e hm
      · rw [List.mem_singleton.1 hm]; exact strip_ok he hkp
    | false => rw [simpK_no rfl rfl hkp]; exact simpK_ok hok k (by omega)

theorem simpK_ext {l r : List Ent} : ∀ k, k ≤ l.length → simpK (l ++ r) k = simpK l k
  | 0, _ => rfl
  | k + 1, h => by
    have ih := simpK_ext (l := l) (r := r) k (by omega)
    have hk : k < l.length := by omega
    have e1 : (l ++ r).getD k E0 = l.getD k E0 := by
      rw [List.getD_eq_getElem?_getD, List.getD_eq_getElem?_getD, List.getElem?_append_left hk]
    have e2 : (l ++ r).take k = l.take k := by rw [List.take_append_of_le_length (by omega)]
    unfold simpK
    rw [ih, e1, e2]
theorem simpK_snoc (l : List Ent) (s : Ent) : simpK (l ++ [s]) (l.length + 1) = simpK l l.length ++ (if keepE (strip s (usel s l)) then [strip s (usel s l)] else []) := by
  have e1 : (l ++ [s]).getD l.length E0 = s := by
    rw [List.getD_eq_getElem?_getD, List.getElem?_append_right (Nat.le_refl _)]; simp
  have e2 : (l ++ [s]).take l.length = l := by rw [List.take_append_of_le_length (Nat.le_refl _), List.take_length]
  conv => lhs; unfold simpK
  rw [simpK_ext _ (Nat.le_refl _), e1, e2]

theorem simpK_idem {xs : List Ent} (hok : ∀ e ∈ xs, Ok e) : ∀ k, k ≤ xs.length → simpK (simpK xs k) (simpK xs k).length = simpK xs k
  | 0, _ => rfl
  | k + 1, h => by
    have ih := simpK_idem hok k (by omega)
    have hk : k < xs.length := by omega
    have he := hok (xs.getD k E0) (by rw [entD hk]; exact List.getElem_mem hk)
    cases hkp : keepE (strip (xs.getD k E0) (usel (xs.getD k E0) (xs.take k))) with
    | false => rw [simpK_no rfl rfl hkp]; exact ih
    | true =>
      rw [simpK_yes rfl rfl hkp]
      have hs : Ok (strip (xs.getD k E0) (usel (xs.getD k E0) (xs.take k))) := strip_ok he hkp
      have hfd := fun x m h1 h7 hm => fd_simp hok (x := x) (m := m) h1 h7 hm k (by omega)
      have happ := fun x m (hm : prm m = true) => strip_app (e := xs.getD k E0) (p := nev (xs.getD k E0) (xs.take k)) (x := x) (m := m) he hm hkp
      have hnev : ∀ m, prm m = true → (bits .and .i64 (bits .or .i64 (strip (xs.getD k E0) (usel (xs.getD k E0) (xs.take k))).a (strip (xs.getD k E0) (usel (xs.getD k E0) (xs.take k))).d) m != 0) = true → nev (strip (xs.getD k E0) (usel (xs.getD k E0) (xs.take k))) (simpK xs k) m = false := by
        intro m hm hb
        have hnp : nev (xs.getD k E0) (xs.take k) m = false := by
          have h9 := happ (if (xs.getD k E0).u = -1 then 1 else (xs.getD k E0).u) m hm
          unfold app at h9
          have hc : cov (strip (xs.getD k E0) (pw (nev (xs.getD k E0) (xs.take k)) 4)) (if (xs.getD k E0).u = -1 then 1 else (xs.getD k E0).u) = true := by
            unfold cov strip
            rw [decide_eq_true_iff]
            by_cases hu : (xs.getD k E0).u = -1
            · exact .inl hu
            · rw [if_neg hu]; exact .inr rfl
          rw [hc] at h9
          unfold usel at hb
          rw [hb] at h9
          simp at h9
          exact h9.2
        have hex : ∃ i : Nat, i < 7 ∧ need (xs.getD k E0) (xs.take k) m ((i : Int) + 1) = true := by
          unfold nev at hnp
          rw [List.all_eq_false] at hnp
          obtain ⟨i, hi, hni⟩ := hnp
          exact ⟨i, List.mem_range.1 hi, by simpa using hni⟩
        obtain ⟨i, hi, hni⟩ := hex
        have h1 : (1 : Int) ≤ (i : Int) + 1 := by omega
        have h7 : (i : Int) + 1 ≤ 7 := by omega
        refine (nev_hit (x := (i : Int) + 1) h1 h7 ?_).symm
        unfold need at hni ⊢
        rw [Bool.and_eq_true] at hni
        have hany : (simpK xs k).any (app · ((i : Int) + 1) m) = (xs.take k).any (app · ((i : Int) + 1) m) := by
          rw [← fd_some, ← fd_some, hfd _ _ h1 h7 hm]
        rw [hany]
        have hcc : cov (strip (xs.getD k E0) (usel (xs.getD k E0) (xs.take k))) ((i : Int) + 1) = cov (xs.getD k E0) ((i : Int) + 1) := rfl
        rw [hcc, hni.1, hni.2]; rfl
      generalize strip (xs.getD k E0) (usel (xs.getD k E0) (xs.take k)) = s at *
      have hbit := fun m hm => (ok_bit hs (m := m) hm).1
      have hsa : bits .andNot .i64 s.a (usel s (simpK xs k)) = s.a := same_bits hs.a0 hs.a15 fun m hm hb => hnev m hm (by rw [hbit m hm]; simp [hb])
      have hsd : bits .andNot .i64 s.d (usel s (simpK xs k)) = s.d := same_bits hs.d0 hs.d15 fun m hm hb => hnev m hm (by rw [hbit m hm]; simp [hb])
      have hss : strip s (usel s (simpK xs k)) = s := by unfold strip; rw [hsa, hsd]
      rw [List.length_append, List.length_singleton, simpK_snoc, ih, hss, if_pos hkp]

end Go.Proofs.Ytbmcfhojhngpkaa
