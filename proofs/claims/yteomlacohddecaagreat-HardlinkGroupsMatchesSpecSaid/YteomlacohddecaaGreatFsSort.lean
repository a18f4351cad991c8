/- The reference's SortStrings at every list of distinct strings: the same strings in ascending order; farshelfequal.Strings at two slices of the same strings. Conditions: the slices' cells lie in memory as they read. -/
import Derived.Test.YteomlacohddecaaGreatFsSort0

set_option linter.all false
namespace Go.Proofs.YteomlacohddecaaGreat
open Go.RowKit

theorem strsSame_any (v1 v2 : Value) (xs : List ByteArray) (w : World) (B1 B2 : Nat) (h1 : Strs w B1 v1 xs) (h2 : Strs w B2 v2 xs) :
    Calls Tryz.prog 21 #[v1, v2] w fun e w' => e = .returned (.bool true) ∧ ∃ q, w' = w.drewN q := by
  obtain ⟨a1, c1, rfl, _, hl, _, hx1⟩ := h1
  obtain ⟨a2, c2, rfl, _, _, _, hx2⟩ := h2
  have HX1 := Lib.hid hx1
  have HX2 := Lib.hid hx2
  clear hx1 hx2
  go_enter Tryz.func21, Tryz.ntmps21
  go_wp2
  go_loopg [5] xs.length (fun gg s5 wr => ∃ k q : Nat, k ≤ xs.length ∧ xs.length - k ≤ gg ∧ s5 = .int .i64 k ∧ wr = w.drewN q)
  case atStart => exact ⟨0, 0, by omega, by omega, rfl, rfl⟩
  case round =>
    obtain ⟨k, q, hk, hg, rfl, rfl⟩ := hrel
    by_cases hlt : k < xs.length
    · have hltz : (k : Int) < (xs.length : Int) := by omega
      have hi0 : (0 : Int) ≤ (k : Int) := Int.natCast_nonneg _
      obtain ⟨b1, o1, rfl, _, hj1⟩ := HX1.out (by omega)
      obtain ⟨b2, o2, rfl, _, hj2⟩ := HX2.out (by omega)
      have g0 := hj1 k hlt
      have d0 := hj2 k hlt
      clear hj1 hj2
      generalize xs.getD k ByteArray.empty = y at *
      go_wp2_with fail
      go_quiet (fail)
      go_wp2_with fail
      go_roundg (xs.length - (k + 1))
      case measure => omega
      case rel => exact ⟨k + 1, _, by omega, by omega, by go_num, rfl⟩
    · have hltz : ¬ (k : Int) < (xs.length : Int) := by omega
      go_wp2_with fail
      go_ret
      exact ⟨rfl, _, rfl⟩



set_option maxRecDepth 100000 in
set_option maxHeartbeats 8000000 in
theorem sortStrings_any (v : Value) (L : List ByteArray) (w : World) (h : Strs w w.heap.size v L) (hnd : L.Nodup) (hl7 : L.length ≤ 100000) :
    Calls Tryz.prog 37 #[v] w (SortPost L w) := by
  have HA := Lib.hid h
  have HF := Lib.hid (show ∀ x ∈ L, x.size ≤ maxLen from by obtain ⟨_, _, _, _, _, hs, _⟩ := h; exact hs)
  obtain ⟨la, lc, rfl, hlc⟩ := h.form rfl
  have HND := Lib.hid hnd
  clear h hnd
  go_enter Tryz.func37, Tryz.ntmps37
  go_wp2_with fail
  have IN := Lib.hid (show SNv w w [] (.slice none 0 0) from ⟨Below.refl _ _, ⟨rfl, .inl ⟨rfl, rfl⟩⟩⟩)
  go_loopg [3, 4, 5] L.length (fun gg s3 s4 _ wr => ∃ i : Nat, i ≤ L.length ∧ L.length - i ≤ gg ∧ s4 = .int .i64 i ∧ ∃ acc : List ByteArray, Aside (acc.length = i) ∧ Aside (Asc acc) ∧ Aside (∀ x, x ∈ acc ↔ x ∈ L.take i) ∧ Aside (SNv w wr acc s3))
  case atStart => exact ⟨0, by omega, by omega, rfl, [], rfl, (show Asc [] from List.Pairwise.nil), (show ∀ x, _ ↔ _ from fun x => by simp), IN.out⟩
  case round =>
    obtain ⟨i, hi, hg, rfl, acc, HAI, ASC, MEM, I⟩ := hrel
    clear IN
    obtain ⟨w2, rfl⟩ : ∃ w2 : World, w2 = wr := ⟨_, rfl⟩
    have AF := Lib.hid (show ∀ x ∈ acc, x.size ≤ maxLen from fun x hx => HF.out x (List.mem_of_mem_take ((MEM.out x).1 hx)))
    have hal : acc.length ≤ L.length := by have := HAI.out; omega
    by_cases hlt : i < L.length
    · have hltz : (i : Int) < (L.length : Int) := by omega
      have hi0 : (0 : Int) ≤ (i : Int) := Int.natCast_nonneg _
      obtain ⟨b, o, rfl, hb, hj⟩ := HA.out.spot (by omega)
      have g0w := hj i hlt
      have HTK := Lib.hid (show L.take (i + 1) = L.take i ++ [L.getD i ByteArray.empty] from by rw [List.take_succ_eq_append_getElem hlt, strD hlt])
      have HNEW := Lib.hid (show L.getD i ByteArray.empty ∉ acc from fun hm => by
        have h1 := (MEM.out _).1 hm
        obtain ⟨j, hj2, e⟩ := List.mem_iff_getElem.1 h1
        rw [List.length_take] at hj2
        rw [List.getElem_take, strD hlt] at e
        have h3 := HND.out
        unfold List.Nodup at h3
        exact List.pairwise_iff_getElem.1 h3 j i (by omega) hlt (by omega) e)
      have hnf : (L.getD i ByteArray.empty).size ≤ maxLen := HF.out _ (by rw [strD hlt]; exact List.getElem_mem hlt)
      clear hj
      generalize L.getD i ByteArray.empty = nm at *
      have SA0 := strs_row I.out.own AF.out (by omega)
      obtain ⟨a7, c7, rfl, hc7⟩ := SA0.form rfl
      clear SA0
      go_wp2_with fail
      go_loopg [5] acc.length (fun gg s5 w5 => ∃ k : Nat, k ≤ acc.length ∧ acc.length - k ≤ gg ∧ s5 = .int .i64 k ∧ Aside (SNv w w5 acc (.slice a7 acc.length c7)) ∧ Aside (∀ j, j < k → ltS (acc.getD j ByteArray.empty) nm = true))
      case atStart => exact ⟨0, by omega, by omega, rfl, I.out, fun j hj => absurd hj (Nat.not_lt_zero _)⟩
      case round =>
        clear I
        obtain ⟨k, hk, hgk, rfl, I, KA⟩ := hrel
        have hk0 : (0 : Int) ≤ (k : Int) := Int.natCast_nonneg _
        have g0 := (I.out.B.cell (p := ⟨b, o + i, none⟩) hb).trans g0w
        have SA := Lib.hid (strs_row I.out.own AF.out (by omega))
        by_cases hkl : k < acc.length
        · have hklz : (k : Int) < (acc.length : Int) := by omega
          obtain ⟨b7, o7, rfl, hb7, hj7⟩ := SA.out.spot (by omega)
          have k0 := hj7 k hkl
          clear hj7
          generalize hz : acc.getD k ByteArray.empty = z at k0
          have Z := Lib.hid hz
          clear hz
          have hzn : z ≠ nm := fun e => HNEW.out (by rw [← e, ← Z.out, strD hkl]; exact List.getElem_mem hkl)
          cases hlz : ltS nm z with
          | false =>
            have hle : (Op.bytesLess z.toList nm.toList || z.toList == nm.toList) = true := by rw [leqS, hlz]; rfl
            have hzt : ltS z nm = true := by
              cases h9 : ltS z nm with
              | true => rfl
              | false => exact absurd (ltS_eq h9 hlz) hzn
            have KZ := Lib.hid hzt
            clear hlz hzn hzt
            go_wp2_with fail
            go_quiet (fail)
            go_wp2_with fail
            go_roundg (acc.length - (k + 1))
            case measure => omega
            case rel =>
              refine ⟨k + 1, by omega, by omega, by go_num, I.out.drewN nq, (show Aside _ from fun j hj => ?_)⟩
              by_cases e : j = k
              · subst e; rw [Z.out]; exact KZ.out
              · exact KA.out j (by omega)
          | true =>
            have hle : (Op.bytesLess z.toList nm.toList || z.toList == nm.toList) = false := by rw [leqS, hlz]; rfl
            have HI := Lib.hid (show Asc (acc.take k ++ [nm] ++ acc.drop k) ∧ ∀ x, x ∈ acc.take k ++ [nm] ++ acc.drop k ↔ x ∈ L.take (i + 1) from by rw [HTK.out]; exact ascOf_ins ASC.out MEM.out hk KA.out (fun _ => by rw [Z.out]; exact hlz))
            clear hlz hzn
            have hck : ¬ c7 = k := by omega
            have hkc : (k : Int) ≤ (c7 : Int) := by omega
            have hkl2 : (k : Int) ≤ (acc.length : Int) := by omega
            have hlc2 : (acc.length : Int) ≤ (c7 : Int) := by omega
            go_wp2_with fail
            go_quiet (fail)
            obtain ⟨hbz, G2, I2, SA2⟩ : b < wr.heap.size ∧ Hid ((wr.drewN nq).cell? ⟨b, o + i, none⟩ = some (.string nm)) ∧ Hid (SNv w (wr.drewN nq) acc (.slice (some ⟨b7, o7, none⟩) acc.length c7)) ∧ Hid (Strs (wr.drewN nq) (wr.drewN nq).heap.size (.slice (some ⟨b7, o7, none⟩) acc.length c7) acc) := ⟨Nat.lt_of_lt_of_le hb I.out.B.size, Lib.hid g0, Lib.hid (I.out.drewN nq), Lib.hid SA.out⟩
            change b < (wr.drewN nq).heap.size at hbz
            clear I SA g0 KA k0
            generalize wr.drewN nq = wz at *
            go_wp2_with fail
            go_region_held3 (fun y => y.cell? ⟨b, o + i, none⟩ = some (.string nm))
              (first | exact kf | exact G2.out | exact cell_al kf _ | exact cell_al G2.out _ | exact cell_al (cell_al G2.out _) _ | go_keep)
              (first
                | (refine step_append_strs (by rfl) (.tmp 29) (.tmp 32) (by rfl) wz.heap.size (.slice (some ⟨wz.heap.size, 0, none⟩) 0 0) 0 [] (by simp [Act.eval]) ((own_empty wz wz.heap.size _ 9 (Nat.le_refl _) rfl).drew) wz.heap.size (.slice (some ⟨b7, o7, none⟩) k c7) (acc.take k) (by simp [Act.eval]) ((SA2.out.cut hk).alloc (Nat.le_refl _) _).drew (by first | omega | (simp; done) | (simp; omega)) (by first | omega | (simp; done) | (simp; omega)) ?_; intro x1 y1 hown1 hg1; have hB1 : Below wz.heap.size wz y1 := (((Below.refl _ _).alloc (Nat.le_refl _) _).drew).grown hg1 (by first | omega | (simp; done) | (simp; omega)) (fun g hg => by simp [Value.ownBlock] at hg; omega); have hs1 := hB1.size; have hq : y1.heap.size = y1.heap.size := rfl; have kf : y1.cell? ⟨b, o + i, none⟩ = some (.string nm) := (hB1.cell (p := ⟨b, o + i, none⟩) hbz).trans G2.out)
                | (refine step_append_strs (by rfl) (.tmp 29) (.tmp 32) (by rfl) wz.heap.size (.slice (some ⟨wz.heap.size, 0, none⟩) 0 0) 0 [] (by simp [Act.eval]) (((own_empty wz wz.heap.size _ 9 (Nat.le_refl _) rfl).alloc _).drew) wz.heap.size (.slice (some ⟨b7, o7, none⟩) k c7) (acc.take k) (by simp [Act.eval]) (((SA2.out.cut hk).alloc (Nat.le_refl _) _).alloc (by first | omega | (simp; done) | (simp; omega)) _).drew (by first | omega | (simp; done) | (simp; omega)) (by first | omega | (simp; done) | (simp; omega)) ?_; intro x1 y1 hown1 hg1; have hB1 : Below wz.heap.size wz y1 := ((((Below.refl _ _).alloc (Nat.le_refl _) _).alloc (by first | omega | (simp; done) | (simp; omega)) _).drew).grown hg1 (by first | omega | (simp; done) | (simp; omega)) (fun g hg => by simp [Value.ownBlock] at hg; omega); have hs1 := hB1.size; have hq : y1.cell? ⟨wz.heap.size + 1, 0, none⟩ = some (.string nm) := cell_grown hg1 (show World.cell? ((wz.alloc (.cells #[] 9)).alloc (.cells #[.string nm] 9)) ⟨wz.heap.size + 1, 0, none⟩ = _ from by simp) (by simp [Value.ownBlock]); have kf : y1.cell? ⟨b, o + i, none⟩ = some (.string nm) := (hB1.cell (p := ⟨b, o + i, none⟩) hbz).trans G2.out)
                | (refine step_append_strs (by rfl) (.tmp 29) (.tmp 32) (by rfl) wz.heap.size (.slice (some ⟨wz.heap.size + 1, 0, none⟩) 0 0) 0 [] (by simp [Act.eval]) ((own_empty (wz.alloc (.cells #[.string nm] 9)) wz.heap.size _ 9 (by first | omega | (simp; done) | (simp; omega)) (by simp)).drew) wz.heap.size (.slice (some ⟨b7, o7, none⟩) k c7) (acc.take k) (by simp [Act.eval]) (((SA2.out.cut hk).alloc (Nat.le_refl _) _).alloc (by first | omega | (simp; done) | (simp; omega)) _).drew (by first | omega | (simp; done) | (simp; omega)) (by first | omega | (simp; done) | (simp; omega)) ?_; intro x1 y1 hown1 hg1; have hB1 : Below wz.heap.size wz y1 := ((((Below.refl _ _).alloc (Nat.le_refl _) _).alloc (by first | omega | (simp; done) | (simp; omega)) _).drew).grown hg1 (by first | omega | (simp; done) | (simp; omega)) (fun g hg => by simp [Value.ownBlock] at hg; omega); have hs1 := hB1.size; have hq : y1.cell? ⟨wz.heap.size, 0, none⟩ = some (.string nm) := cell_grown hg1 (show World.cell? ((wz.alloc (.cells #[.string nm] 9)).alloc (.cells #[] 9)) ⟨wz.heap.size, 0, none⟩ = _ from by simp) (by simp [Value.ownBlock]); have kf : y1.cell? ⟨b, o + i, none⟩ = some (.string nm) := (hB1.cell (p := ⟨b, o + i, none⟩) hbz).trans G2.out)
                | (refine step_append_strs (by rfl) (.tmp 33) (.tmp 38) (by rfl) wz.heap.size x1 _ _ (by simp [Act.eval]) (hown1.alloc _) _ (.slice (some ⟨y1.heap.size, 0, none⟩) 1 1) [nm] (by simp [Act.eval]) (strs_one y1 _ rfl nm hnf _) (by first | omega | (simp; done) | (simp; omega)) (by first | omega | (simp; done) | (simp; omega)) ?_; intro x2 y2 hown2 hg2; have hB2 : Below wz.heap.size wz y2 := (hB1.alloc hs1 _).grown hg2 (by first | omega | (simp; done) | (simp; omega)) (fun g hg => (hown1.lt g hg).1); have hs2 := hB2.size; have kf : y2.cell? ⟨b, o + i, none⟩ = some (.string nm) := (hB2.cell (p := ⟨b, o + i, none⟩) hbz).trans G2.out)
                | (refine step_append_strs (by rfl) (.tmp 33) (.tmp 38) (by rfl) wz.heap.size x1 _ _ (by simp [Act.eval]) hown1 _ (.slice (some ⟨wz.heap.size + 1, 0, none⟩) 1 1) [nm] (by simp [Act.eval]) (strs_cell (B := wz.heap.size + 2) hq (by omega) hnf) (by first | omega | (simp; done) | (simp; omega)) (by first | omega | (simp; done) | (simp; omega)) ?_; intro x2 y2 hown2 hg2; have hB2 : Below wz.heap.size wz y2 := (hB1).grown hg2 (by first | omega | (simp; done) | (simp; omega)) (fun g hg => (hown1.lt g hg).1); have hs2 := hB2.size; have kf : y2.cell? ⟨b, o + i, none⟩ = some (.string nm) := (hB2.cell (p := ⟨b, o + i, none⟩) hbz).trans G2.out)
                | (refine step_append_strs (by rfl) (.tmp 33) (.tmp 38) (by rfl) wz.heap.size x1 _ _ (by simp [Act.eval]) hown1 _ (.slice (some ⟨wz.heap.size, 0, none⟩) 1 1) [nm] (by simp [Act.eval]) (strs_cell (B := wz.heap.size + 2) hq (by omega) hnf) (by first | omega | (simp; done) | (simp; omega)) (by first | omega | (simp; done) | (simp; omega)) ?_; intro x2 y2 hown2 hg2; have hB2 : Below wz.heap.size wz y2 := (hB1).grown hg2 (by first | omega | (simp; done) | (simp; omega)) (fun g hg => (hown1.lt g hg).1); have hs2 := hB2.size; have kf : y2.cell? ⟨b, o + i, none⟩ = some (.string nm) := (hB2.cell (p := ⟨b, o + i, none⟩) hbz).trans G2.out)
                | (refine step_append_strs (by rfl) (.tmp 39) (.tmp 42) (by rfl) wz.heap.size x2 _ _ (by simp [Act.eval]) hown2 wz.heap.size (.slice (some ⟨b7, o7 + k, none⟩) (acc.length - k) (c7 - k)) (acc.drop k) (by simp [Act.eval]) ((SA2.out.from_ hk).below hB2) (by first | omega | (simp; done) | (simp; omega)) (by first | omega | (simp; done) | (simp; omega)) ?_; intro x3 y3 hown3 hg3; have hB9 : Below wz.heap.size wz y3 := hB2.grown hg3 hs2 (fun g hg => (hown2.lt g hg).1); have kf : y3.cell? ⟨b, o + i, none⟩ = some (.string nm) := (hB9.cell (p := ⟨b, o + i, none⟩) hbz).trans G2.out)
                | ((trace_state; fail)))
            all_goals
              have hbs := I2.out.B.size
              have HO3 := Lib.hid (show y3.ownsRow w.heap.size 9 1 x3 (acc.take k ++ [nm] ++ acc.drop k).length ((acc.take k ++ [nm] ++ acc.drop k).map Value.string) from by
                have h9 := own_le hown3 hbs
                rw [List.nil_append, ← List.map_append, ← List.map_append, Nat.zero_add, ← List.length_append, ← List.length_append] at h9
                exact h9)
              have HB3 := Lib.hid (I2.out.B.trans (hB9.mono hbs))
              clear hown1 hown2 hown3 hg1 hg2 hg3 hB1 hB2 hB9 kf
              go_wp2
              go_roundg (L.length - (i + 1))
              case measure => omega
              case rel => exact ⟨i + 1, by omega, by omega, by go_num, _, (show Aside _ from by have h9 := HAI.out; show List.length _ = _; simp only [List.length_append, List.length_take, List.length_drop, List.length_singleton] at h9 ⊢; omega), HI.out.1, HI.out.2, ⟨HB3.out, HO3.out⟩⟩
        · obtain rfl : k = acc.length := by omega
          have HI0 := Lib.hid (show Asc (acc.take acc.length ++ [nm] ++ acc.drop acc.length) ∧ ∀ x, x ∈ acc.take acc.length ++ [nm] ++ acc.drop acc.length ↔ x ∈ L.take (i + 1) from by rw [HTK.out]; exact ascOf_ins ASC.out MEM.out hk KA.out (fun h => absurd h (Nat.lt_irrefl _)))
          rcases I.out.own.2 with ⟨h7, h70⟩ | ⟨g7, cap7, cur7, h7, _, _, _, _, _, _⟩
          · obtain rfl : acc = [] := List.eq_nil_of_length_eq_zero h70
            injection h7 with e1 _ e2
            subst e1 e2
            clear h70
            have HI : Hid (Asc (([] : List ByteArray) ++ [nm] ++ ([] : List ByteArray)) ∧ ∀ x, x ∈ ([] : List ByteArray) ++ [nm] ++ ([] : List ByteArray) ↔ x ∈ L.take (i + 1)) := HI0
            go_wp2_with fail
            go_quiet (fail)
            obtain ⟨hbz, G2, I2, SA2⟩ : b < wr.heap.size ∧ Hid ((wr.drewN nq).cell? ⟨b, o + i, none⟩ = some (.string nm)) ∧ Hid (SNv w (wr.drewN nq) [] (.slice none 0 0)) ∧ Hid (Strs (wr.drewN nq) (wr.drewN nq).heap.size (.slice none 0 0) []) := ⟨Nat.lt_of_lt_of_le hb I.out.B.size, Lib.hid g0, Lib.hid (I.out.drewN nq), Lib.hid SA.out⟩
            change b < (wr.drewN nq).heap.size at hbz
            clear I SA g0 KA
            generalize wr.drewN nq = wz at *
            go_wp2_with fail
            go_region_held3 (fun y => y.cell? ⟨b, o + i, none⟩ = some (.string nm))
              (first | exact kf | exact G2.out | exact cell_al kf _ | exact cell_al G2.out _ | exact cell_al (cell_al G2.out _) _ | go_keep)
              (first
                | (refine step_append_strs (by rfl) (.tmp 29) (.tmp 32) (by rfl) wz.heap.size (.slice (some ⟨wz.heap.size, 0, none⟩) 0 0) 0 [] (by simp [Act.eval]) ((own_empty wz wz.heap.size _ 9 (Nat.le_refl _) rfl).drew) wz.heap.size (.slice none 0 0) (([] : List ByteArray)) (by simp [Act.eval]) ((SA2.out).alloc (Nat.le_refl _) _).drew (by first | omega | (simp; done) | (simp; omega)) (by first | omega | (simp; done) | (simp; omega)) ?_; intro x1 y1 hown1 hg1; have hB1 : Below wz.heap.size wz y1 := (((Below.refl _ _).alloc (Nat.le_refl _) _).drew).grown hg1 (by first | omega | (simp; done) | (simp; omega)) (fun g hg => by simp [Value.ownBlock] at hg; omega); have hs1 := hB1.size; have hq : y1.heap.size = y1.heap.size := rfl; have kf : y1.cell? ⟨b, o + i, none⟩ = some (.string nm) := (hB1.cell (p := ⟨b, o + i, none⟩) hbz).trans G2.out)
                | (refine step_append_strs (by rfl) (.tmp 29) (.tmp 32) (by rfl) wz.heap.size (.slice (some ⟨wz.heap.size, 0, none⟩) 0 0) 0 [] (by simp [Act.eval]) (((own_empty wz wz.heap.size _ 9 (Nat.le_refl _) rfl).alloc _).drew) wz.heap.size (.slice none 0 0) (([] : List ByteArray)) (by simp [Act.eval]) (((SA2.out).alloc (Nat.le_refl _) _).alloc (by first | omega | (simp; done) | (simp; omega)) _).drew (by first | omega | (simp; done) | (simp; omega)) (by first | omega | (simp; done) | (simp; omega)) ?_; intro x1 y1 hown1 hg1; have hB1 : Below wz.heap.size wz y1 := ((((Below.refl _ _).alloc (Nat.le_refl _) _).alloc (by first | omega | (simp; done) | (simp; omega)) _).drew).grown hg1 (by first | omega | (simp; done) | (simp; omega)) (fun g hg => by simp [Value.ownBlock] at hg; omega); have hs1 := hB1.size; have hq : y1.cell? ⟨wz.heap.size + 1, 0, none⟩ = some (.string nm) := cell_grown hg1 (show World.cell? ((wz.alloc (.cells #[] 9)).alloc (.cells #[.string nm] 9)) ⟨wz.heap.size + 1, 0, none⟩ = _ from by simp) (by simp [Value.ownBlock]); have kf : y1.cell? ⟨b, o + i, none⟩ = some (.string nm) := (hB1.cell (p := ⟨b, o + i, none⟩) hbz).trans G2.out)
                | (refine step_append_strs (by rfl) (.tmp 29) (.tmp 32) (by rfl) wz.heap.size (.slice (some ⟨wz.heap.size + 1, 0, none⟩) 0 0) 0 [] (by simp [Act.eval]) ((own_empty (wz.alloc (.cells #[.string nm] 9)) wz.heap.size _ 9 (by first | omega | (simp; done) | (simp; omega)) (by simp)).drew) wz.heap.size (.slice none 0 0) (([] : List ByteArray)) (by simp [Act.eval]) (((SA2.out).alloc (Nat.le_refl _) _).alloc (by first | omega | (simp; done) | (simp; omega)) _).drew (by first | omega | (simp; done) | (simp; omega)) (by first | omega | (simp; done) | (simp; omega)) ?_; intro x1 y1 hown1 hg1; have hB1 : Below wz.heap.size wz y1 := ((((Below.refl _ _).alloc (Nat.le_refl _) _).alloc (by first | omega | (simp; done) | (simp; omega)) _).drew).grown hg1 (by first | omega | (simp; done) | (simp; omega)) (fun g hg => by simp [Value.ownBlock] at hg; omega); have hs1 := hB1.size; have hq : y1.cell? ⟨wz.heap.size, 0, none⟩ = some (.string nm) := cell_grown hg1 (show World.cell? ((wz.alloc (.cells #[.string nm] 9)).alloc (.cells #[] 9)) ⟨wz.heap.size, 0, none⟩ = _ from by simp) (by simp [Value.ownBlock]); have kf : y1.cell? ⟨b, o + i, none⟩ = some (.string nm) := (hB1.cell (p := ⟨b, o + i, none⟩) hbz).trans G2.out)
                | (refine step_append_strs (by rfl) (.tmp 33) (.tmp 38) (by rfl) wz.heap.size x1 _ _ (by simp [Act.eval]) (hown1.alloc _) _ (.slice (some ⟨y1.heap.size, 0, none⟩) 1 1) [nm] (by simp [Act.eval]) (strs_one y1 _ rfl nm hnf _) (by first | omega | (simp; done) | (simp; omega)) (by first | omega | (simp; done) | (simp; omega)) ?_; intro x2 y2 hown2 hg2; have hB2 : Below wz.heap.size wz y2 := (hB1.alloc hs1 _).grown hg2 (by first | omega | (simp; done) | (simp; omega)) (fun g hg => (hown1.lt g hg).1); have hs2 := hB2.size; have kf : y2.cell? ⟨b, o + i, none⟩ = some (.string nm) := (hB2.cell (p := ⟨b, o + i, none⟩) hbz).trans G2.out)
                | (refine step_append_strs (by rfl) (.tmp 33) (.tmp 38) (by rfl) wz.heap.size x1 _ _ (by simp [Act.eval]) hown1 _ (.slice (some ⟨wz.heap.size + 1, 0, none⟩) 1 1) [nm] (by simp [Act.eval]) (strs_cell (B := wz.heap.size + 2) hq (by omega) hnf) (by first | omega | (simp; done) | (simp; omega)) (by first | omega | (simp; done) | (simp; omega)) ?_; intro x2 y2 hown2 hg2; have hB2 : Below wz.heap.size wz y2 := (hB1).grown hg2 (by first | omega | (simp; done) | (simp; omega)) (fun g hg => (hown1.lt g hg).1); have hs2 := hB2.size; have kf : y2.cell? ⟨b, o + i, none⟩ = some (.string nm) := (hB2.cell (p := ⟨b, o + i, none⟩) hbz).trans G2.out)
                | (refine step_append_strs (by rfl) (.tmp 33) (.tmp 38) (by rfl) wz.heap.size x1 _ _ (by simp [Act.eval]) hown1 _ (.slice (some ⟨wz.heap.size, 0, none⟩) 1 1) [nm] (by simp [Act.eval]) (strs_cell (B := wz.heap.size + 2) hq (by omega) hnf) (by first | omega | (simp; done) | (simp; omega)) (by first | omega | (simp; done) | (simp; omega)) ?_; intro x2 y2 hown2 hg2; have hB2 : Below wz.heap.size wz y2 := (hB1).grown hg2 (by first | omega | (simp; done) | (simp; omega)) (fun g hg => (hown1.lt g hg).1); have hs2 := hB2.size; have kf : y2.cell? ⟨b, o + i, none⟩ = some (.string nm) := (hB2.cell (p := ⟨b, o + i, none⟩) hbz).trans G2.out)
                | (refine step_append_strs (by rfl) (.tmp 39) (.tmp 42) (by rfl) wz.heap.size x2 _ _ (by simp [Act.eval]) hown2 wz.heap.size (.slice none 0 0) (([] : List ByteArray)) (by simp [Act.eval]) (Strs.empty _ _ _ _) (by first | omega | (simp; done) | (simp; omega)) (by first | omega | (simp; done) | (simp; omega)) ?_; intro x3 y3 hown3 hg3; have hB9 : Below wz.heap.size wz y3 := hB2.grown hg3 hs2 (fun g hg => (hown2.lt g hg).1); have kf : y3.cell? ⟨b, o + i, none⟩ = some (.string nm) := (hB9.cell (p := ⟨b, o + i, none⟩) hbz).trans G2.out)
                | ((trace_state; fail)))
            all_goals
              have hbs := I2.out.B.size
              have HO3 := Lib.hid (show y3.ownsRow w.heap.size 9 1 x3 (([] : List ByteArray) ++ [nm] ++ ([] : List ByteArray)).length ((([] : List ByteArray) ++ [nm] ++ ([] : List ByteArray)).map Value.string) from by
                have h9 := own_le hown3 hbs
                rw [List.nil_append, ← List.map_append, ← List.map_append, Nat.zero_add, ← List.length_append, ← List.length_append] at h9
                exact h9)
              have HB3 := Lib.hid (I2.out.B.trans (hB9.mono hbs))
              clear hown1 hown2 hown3 hg1 hg2 hg3 hB1 hB2 hB9 kf
              go_wp2
              go_roundg (L.length - (i + 1))
              case measure => omega
              case rel => exact ⟨i + 1, by omega, by omega, by go_num, _, (show Aside _ from by have h9 := HAI.out; show List.length _ = _; simp only [List.length_append, List.length_singleton, List.length_nil] at h9 ⊢; omega), HI.out.1, HI.out.2, ⟨HB3.out, HO3.out⟩⟩
          · injection h7 with e1 _ e2
            subst e1 e2
            have HI := HI0
            clear HI0
            have hlc2 : (acc.length : Int) ≤ (c7 : Int) := by omega
            go_wp2_with fail
            go_quiet (fail)
            obtain ⟨hbz, G2, I2, SA2⟩ : b < wr.heap.size ∧ Hid ((wr.drewN nq).cell? ⟨b, o + i, none⟩ = some (.string nm)) ∧ Hid (SNv w (wr.drewN nq) acc (.slice (some ⟨g7, 0, none⟩) acc.length c7)) ∧ Hid (Strs (wr.drewN nq) (wr.drewN nq).heap.size (.slice (some ⟨g7, 0, none⟩) acc.length c7) acc) := ⟨Nat.lt_of_lt_of_le hb I.out.B.size, Lib.hid g0, Lib.hid (I.out.drewN nq), Lib.hid SA.out⟩
            change b < (wr.drewN nq).heap.size at hbz
            clear I SA g0 KA
            generalize wr.drewN nq = wz at *
            by_cases hck : c7 = acc.length
            · subst hck
              go_wp2_with fail
              go_region_held3 (fun y => y.cell? ⟨b, o + i, none⟩ = some (.string nm))
                (first | exact kf | exact G2.out | exact cell_al kf _ | exact cell_al G2.out _ | exact cell_al (cell_al G2.out _) _ | go_keep)
                (first
                  | (refine step_append_strs (by rfl) (.tmp 29) (.tmp 32) (by rfl) wz.heap.size (.slice (some ⟨wz.heap.size, 0, none⟩) 0 0) 0 [] (by simp [Act.eval]) ((own_empty wz wz.heap.size _ 9 (Nat.le_refl _) rfl).drew) wz.heap.size (.slice (some ⟨g7, 0, none⟩) acc.length acc.length) (acc.take acc.length) (by simp [Act.eval]) ((SA2.out.cut (Nat.le_refl _)).alloc (Nat.le_refl _) _).drew (by first | omega | (simp; done) | (simp; omega)) (by first | omega | (simp; done) | (simp; omega)) ?_; intro x1 y1 hown1 hg1; have hB1 : Below wz.heap.size wz y1 := (((Below.refl _ _).alloc (Nat.le_refl _) _).drew).grown hg1 (by first | omega | (simp; done) | (simp; omega)) (fun g hg => by simp [Value.ownBlock] at hg; omega); have hs1 := hB1.size; have hq : y1.heap.size = y1.heap.size := rfl; have kf : y1.cell? ⟨b, o + i, none⟩ = some (.string nm) := (hB1.cell (p := ⟨b, o + i, none⟩) hbz).trans G2.out)
                  | (refine step_append_strs (by rfl) (.tmp 29) (.tmp 32) (by rfl) wz.heap.size (.slice (some ⟨wz.heap.size, 0, none⟩) 0 0) 0 [] (by simp [Act.eval]) (((own_empty wz wz.heap.size _ 9 (Nat.le_refl _) rfl).alloc _).drew) wz.heap.size (.slice (some ⟨g7, 0, none⟩) acc.length acc.length) (acc.take acc.length) (by simp [Act.eval]) (((SA2.out.cut (Nat.le_refl _)).alloc (Nat.le_refl _) _).alloc (by first | omega | (simp; done) | (simp; omega)) _).drew (by first | omega | (simp; done) | (simp; omega)) (by first | omega | (simp; done) | (simp; omega)) ?_; intro x1 y1 hown1 hg1; have hB1 : Below wz.heap.size wz y1 := ((((Below.refl _ _).alloc (Nat.le_refl _) _).alloc (by first | omega | (simp; done) | (simp; omega)) _).drew).grown hg1 (by first | omega | (simp; done) | (simp; omega)) (fun g hg => by simp [Value.ownBlock] at hg; omega); have hs1 := hB1.size; have hq : y1.cell? ⟨wz.heap.size + 1, 0, none⟩ = some (.string nm) := cell_grown hg1 (show World.cell? ((wz.alloc (.cells #[] 9)).alloc (.cells #[.string nm] 9)) ⟨wz.heap.size + 1, 0, none⟩ = _ from by simp) (by simp [Value.ownBlock]); have kf : y1.cell? ⟨b, o + i, none⟩ = some (.string nm) := (hB1.cell (p := ⟨b, o + i, none⟩) hbz).trans G2.out)
                  | (refine step_append_strs (by rfl) (.tmp 29) (.tmp 32) (by rfl) wz.heap.size (.slice (some ⟨wz.heap.size + 1, 0, none⟩) 0 0) 0 [] (by simp [Act.eval]) ((own_empty (wz.alloc (.cells #[.string nm] 9)) wz.heap.size _ 9 (by first | omega | (simp; done) | (simp; omega)) (by simp)).drew) wz.heap.size (.slice (some ⟨g7, 0, none⟩) acc.length acc.length) (acc.take acc.length) (by simp [Act.eval]) (((SA2.out.cut (Nat.le_refl _)).alloc (Nat.le_refl _) _).alloc (by first | omega | (simp; done) | (simp; omega)) _).drew (by first | omega | (simp; done) | (simp; omega)) (by first | omega | (simp; done) | (simp; omega)) ?_; intro x1 y1 hown1 hg1; have hB1 : Below wz.heap.size wz y1 := ((((Below.refl _ _).alloc (Nat.le_refl _) _).alloc (by first | omega | (simp; done) | (simp; omega)) _).drew).grown hg1 (by first | omega | (simp; done) | (simp; omega)) (fun g hg => by simp [Value.ownBlock] at hg; omega); have hs1 := hB1.size; have hq : y1.cell? ⟨wz.heap.size, 0, none⟩ = some (.string nm) := cell_grown hg1 (show World.cell? ((wz.alloc (.cells #[.string nm] 9)).alloc (.cells #[] 9)) ⟨wz.heap.size, 0, none⟩ = _ from by simp) (by simp [Value.ownBlock]); have kf : y1.cell? ⟨b, o + i, none⟩ = some (.string nm) := (hB1.cell (p := ⟨b, o + i, none⟩) hbz).trans G2.out)
                  | (refine step_append_strs (by rfl) (.tmp 33) (.tmp 38) (by rfl) wz.heap.size x1 _ _ (by simp [Act.eval]) (hown1.alloc _) _ (.slice (some ⟨y1.heap.size, 0, none⟩) 1 1) [nm] (by simp [Act.eval]) (strs_one y1 _ rfl nm hnf _) (by first | omega | (simp; done) | (simp; omega)) (by first | omega | (simp; done) | (simp; omega)) ?_; intro x2 y2 hown2 hg2; have hB2 : Below wz.heap.size wz y2 := (hB1.alloc hs1 _).grown hg2 (by first | omega | (simp; done) | (simp; omega)) (fun g hg => (hown1.lt g hg).1); have hs2 := hB2.size; have kf : y2.cell? ⟨b, o + i, none⟩ = some (.string nm) := (hB2.cell (p := ⟨b, o + i, none⟩) hbz).trans G2.out)
                  | (refine step_append_strs (by rfl) (.tmp 33) (.tmp 38) (by rfl) wz.heap.size x1 _ _ (by simp [Act.eval]) hown1 _ (.slice (some ⟨wz.heap.size + 1, 0, none⟩) 1 1) [nm] (by simp [Act.eval]) (strs_cell (B := wz.heap.size + 2) hq (by omega) hnf) (by first | omega | (simp; done) | (simp; omega)) (by first | omega | (simp; done) | (simp; omega)) ?_; intro x2 y2 hown2 hg2; have hB2 : Below wz.heap.size wz y2 := (hB1).grown hg2 (by first | omega | (simp; done) | (simp; omega)) (fun g hg => (hown1.lt g hg).1); have hs2 := hB2.size; have kf : y2.cell? ⟨b, o + i, none⟩ = some (.string nm) := (hB2.cell (p := ⟨b, o + i, none⟩) hbz).trans G2.out)
                  | (refine step_append_strs (by rfl) (.tmp 33) (.tmp 38) (by rfl) wz.heap.size x1 _ _ (by simp [Act.eval]) hown1 _ (.slice (some ⟨wz.heap.size, 0, none⟩) 1 1) [nm] (by simp [Act.eval]) (strs_cell (B := wz.heap.size + 2) hq (by omega) hnf) (by first | omega | (simp; done) | (simp; omega)) (by first | omega | (simp; done) | (simp; omega)) ?_; intro x2 y2 hown2 hg2; have hB2 : Below wz.heap.size wz y2 := (hB1).grown hg2 (by first | omega | (simp; done) | (simp; omega)) (fun g hg => (hown1.lt g hg).1); have hs2 := hB2.size; have kf : y2.cell? ⟨b, o + i, none⟩ = some (.string nm) := (hB2.cell (p := ⟨b, o + i, none⟩) hbz).trans G2.out)
                  | (refine step_append_strs (by rfl) (.tmp 39) (.tmp 42) (by rfl) wz.heap.size x2 _ _ (by simp [Act.eval]) hown2 wz.heap.size (.slice (some ⟨g7, 0, none⟩) 0 0) (acc.drop acc.length) (by simp [Act.eval]) (by rw [List.drop_length]; exact Strs.empty _ _ _ _) (by first | omega | (simp; done) | (simp; omega)) (by first | omega | (simp; done) | (simp; omega)) ?_; intro x3 y3 hown3 hg3; have hB9 : Below wz.heap.size wz y3 := hB2.grown hg3 hs2 (fun g hg => (hown2.lt g hg).1); have kf : y3.cell? ⟨b, o + i, none⟩ = some (.string nm) := (hB9.cell (p := ⟨b, o + i, none⟩) hbz).trans G2.out)
                  | ((trace_state; fail)))
              all_goals
                have hbs := I2.out.B.size
                have HO3 := Lib.hid (show y3.ownsRow w.heap.size 9 1 x3 (acc.take acc.length ++ [nm] ++ acc.drop acc.length).length ((acc.take acc.length ++ [nm] ++ acc.drop acc.length).map Value.string) from by
                  have h9 := own_le hown3 hbs
                  rw [List.nil_append, ← List.map_append, ← List.map_append, Nat.zero_add, ← List.length_append, ← List.length_append] at h9
                  exact h9)
                have HB3 := Lib.hid (I2.out.B.trans (hB9.mono hbs))
                clear hown1 hown2 hown3 hg1 hg2 hg3 hB1 hB2 hB9 kf
                go_wp2
                go_roundg (L.length - (i + 1))
                case measure => omega
                case rel => exact ⟨i + 1, by omega, by omega, by go_num, _, (show Aside _ from by have h9 := HAI.out; show List.length _ = _; simp only [List.length_append, List.length_take, List.length_drop, List.length_singleton] at h9 ⊢; omega), HI.out.1, HI.out.2, ⟨HB3.out, HO3.out⟩⟩
            · go_wp2_with fail
              go_region_held3 (fun y => y.cell? ⟨b, o + i, none⟩ = some (.string nm))
                (first | exact kf | exact G2.out | exact cell_al kf _ | exact cell_al G2.out _ | exact cell_al (cell_al G2.out _) _ | go_keep)
                (first
                  | (refine step_append_strs (by rfl) (.tmp 29) (.tmp 32) (by rfl) wz.heap.size (.slice (some ⟨wz.heap.size, 0, none⟩) 0 0) 0 [] (by simp [Act.eval]) ((own_empty wz wz.heap.size _ 9 (Nat.le_refl _) rfl).drew) wz.heap.size (.slice (some ⟨g7, 0, none⟩) acc.length c7) (acc.take acc.length) (by simp [Act.eval]) ((SA2.out.cut (Nat.le_refl _)).alloc (Nat.le_refl _) _).drew (by first | omega | (simp; done) | (simp; omega)) (by first | omega | (simp; done) | (simp; omega)) ?_; intro x1 y1 hown1 hg1; have hB1 : Below wz.heap.size wz y1 := (((Below.refl _ _).alloc (Nat.le_refl _) _).drew).grown hg1 (by first | omega | (simp; done) | (simp; omega)) (fun g hg => by simp [Value.ownBlock] at hg; omega); have hs1 := hB1.size; have hq : y1.heap.size = y1.heap.size := rfl; have kf : y1.cell? ⟨b, o + i, none⟩ = some (.string nm) := (hB1.cell (p := ⟨b, o + i, none⟩) hbz).trans G2.out)
                  | (refine step_append_strs (by rfl) (.tmp 29) (.tmp 32) (by rfl) wz.heap.size (.slice (some ⟨wz.heap.size, 0, none⟩) 0 0) 0 [] (by simp [Act.eval]) (((own_empty wz wz.heap.size _ 9 (Nat.le_refl _) rfl).alloc _).drew) wz.heap.size (.slice (some ⟨g7, 0, none⟩) acc.length c7) (acc.take acc.length) (by simp [Act.eval]) (((SA2.out.cut (Nat.le_refl _)).alloc (Nat.le_refl _) _).alloc (by first | omega | (simp; done) | (simp; omega)) _).drew (by first | omega | (simp; done) | (simp; omega)) (by first | omega | (simp; done) | (simp; omega)) ?_; intro x1 y1 hown1 hg1; have hB1 : Below wz.heap.size wz y1 := ((((Below.refl _ _).alloc (Nat.le_refl _) _).alloc (by first | omega | (simp; done) | (simp; omega)) _).drew).grown hg1 (by first | omega | (simp; done) | (simp; omega)) (fun g hg => by simp [Value.ownBlock] at hg; omega); have hs1 := hB1.size; have hq : y1.cell? ⟨wz.heap.size + 1, 0, none⟩ = some (.string nm) := cell_grown hg1 (show World.cell? ((wz.alloc (.cells #[] 9)).alloc (.cells #[.string nm] 9)) ⟨wz.heap.size + 1, 0, none⟩ = _ from by simp) (by simp [Value.ownBlock]); have kf : y1.cell? ⟨b, o + i, none⟩ = some (.string nm) := (hB1.cell (p := ⟨b, o + i, none⟩) hbz).trans G2.out)
                  | (refine step_append_strs (by rfl) (.tmp 29) (.tmp 32) (by rfl) wz.heap.size (.slice (some ⟨wz.heap.size + 1, 0, none⟩) 0 0) 0 [] (by simp [Act.eval]) ((own_empty (wz.alloc (.cells #[.string nm] 9)) wz.heap.size _ 9 (by first | omega | (simp; done) | (simp; omega)) (by simp)).drew) wz.heap.size (.slice (some ⟨g7, 0, none⟩) acc.length c7) (acc.take acc.length) (by simp [Act.eval]) (((SA2.out.cut (Nat.le_refl _)).alloc (Nat.le_refl _) _).alloc (by first | omega | (simp; done) | (simp; omega)) _).drew (by first | omega | (simp; done) | (simp; omega)) (by first | omega | (simp; done) | (simp; omega)) ?_; intro x1 y1 hown1 hg1; have hB1 : Below wz.heap.size wz y1 := ((((Below.refl _ _).alloc (Nat.le_refl _) _).alloc (by first | omega | (simp; done) | (simp; omega)) _).drew).grown hg1 (by first | omega | (simp; done) | (simp; omega)) (fun g hg => by simp [Value.ownBlock] at hg; omega); have hs1 := hB1.size; have hq : y1.cell? ⟨wz.heap.size, 0, none⟩ = some (.string nm) := cell_grown hg1 (show World.cell? ((wz.alloc (.cells #[.string nm] 9)).alloc (.cells #[] 9)) ⟨wz.heap.size, 0, none⟩ = _ from by simp) (by simp [Value.ownBlock]); have kf : y1.cell? ⟨b, o + i, none⟩ = some (.string nm) := (hB1.cell (p := ⟨b, o + i, none⟩) hbz).trans G2.out)
                  | (refine step_append_strs (by rfl) (.tmp 33) (.tmp 38) (by rfl) wz.heap.size x1 _ _ (by simp [Act.eval]) (hown1.alloc _) _ (.slice (some ⟨y1.heap.size, 0, none⟩) 1 1) [nm] (by simp [Act.eval]) (strs_one y1 _ rfl nm hnf _) (by first | omega | (simp; done) | (simp; omega)) (by first | omega | (simp; done) | (simp; omega)) ?_; intro x2 y2 hown2 hg2; have hB2 : Below wz.heap.size wz y2 := (hB1.alloc hs1 _).grown hg2 (by first | omega | (simp; done) | (simp; omega)) (fun g hg => (hown1.lt g hg).1); have hs2 := hB2.size; have kf : y2.cell? ⟨b, o + i, none⟩ = some (.string nm) := (hB2.cell (p := ⟨b, o + i, none⟩) hbz).trans G2.out)
                  | (refine step_append_strs (by rfl) (.tmp 33) (.tmp 38) (by rfl) wz.heap.size x1 _ _ (by simp [Act.eval]) hown1 _ (.slice (some ⟨wz.heap.size + 1, 0, none⟩) 1 1) [nm] (by simp [Act.eval]) (strs_cell (B := wz.heap.size + 2) hq (by omega) hnf) (by first | omega | (simp; done) | (simp; omega)) (by first | omega | (simp; done) | (simp; omega)) ?_; intro x2 y2 hown2 hg2; have hB2 : Below wz.heap.size wz y2 := (hB1).grown hg2 (by first | omega | (simp; done) | (simp; omega)) (fun g hg => (hown1.lt g hg).1); have hs2 := hB2.size; have kf : y2.cell? ⟨b, o + i, none⟩ = some (.string nm) := (hB2.cell (p := ⟨b, o + i, none⟩) hbz).trans G2.out)
                  | (refine step_append_strs (by rfl) (.tmp 33) (.tmp 38) (by rfl) wz.heap.size x1 _ _ (by simp [Act.eval]) hown1 _ (.slice (some ⟨wz.heap.size, 0, none⟩) 1 1) [nm] (by simp [Act.eval]) (strs_cell (B := wz.heap.size + 2) hq (by omega) hnf) (by first | omega | (simp; done) | (simp; omega)) (by first | omega | (simp; done) | (simp; omega)) ?_; intro x2 y2 hown2 hg2; have hB2 : Below wz.heap.size wz y2 := (hB1).grown hg2 (by first | omega | (simp; done) | (simp; omega)) (fun g hg => (hown1.lt g hg).1); have hs2 := hB2.size; have kf : y2.cell? ⟨b, o + i, none⟩ = some (.string nm) := (hB2.cell (p := ⟨b, o + i, none⟩) hbz).trans G2.out)
                  | (refine step_append_strs (by rfl) (.tmp 39) (.tmp 42) (by rfl) wz.heap.size x2 _ _ (by simp [Act.eval]) hown2 wz.heap.size (.slice (some ⟨g7, acc.length, none⟩) 0 (c7 - acc.length)) (acc.drop acc.length) (by simp [Act.eval]) (by rw [List.drop_length]; exact Strs.empty _ _ _ _) (by first | omega | (simp; done) | (simp; omega)) (by first | omega | (simp; done) | (simp; omega)) ?_; intro x3 y3 hown3 hg3; have hB9 : Below wz.heap.size wz y3 := hB2.grown hg3 hs2 (fun g hg => (hown2.lt g hg).1); have kf : y3.cell? ⟨b, o + i, none⟩ = some (.string nm) := (hB9.cell (p := ⟨b, o + i, none⟩) hbz).trans G2.out)
                  | ((trace_state; fail)))
              all_goals
                have hbs := I2.out.B.size
                have HO3 := Lib.hid (show y3.ownsRow w.heap.size 9 1 x3 (acc.take acc.length ++ [nm] ++ acc.drop acc.length).length ((acc.take acc.length ++ [nm] ++ acc.drop acc.length).map Value.string) from by
                  have h9 := own_le hown3 hbs
                  rw [List.nil_append, ← List.map_append, ← List.map_append, Nat.zero_add, ← List.length_append, ← List.length_append] at h9
                  exact h9)
                have HB3 := Lib.hid (I2.out.B.trans (hB9.mono hbs))
                clear hown1 hown2 hown3 hg1 hg2 hg3 hB1 hB2 hB9 kf
                go_wp2
                go_roundg (L.length - (i + 1))
                case measure => omega
                case rel => exact ⟨i + 1, by omega, by omega, by go_num, _, (show Aside _ from by have h9 := HAI.out; show List.length _ = _; simp only [List.length_append, List.length_take, List.length_drop, List.length_singleton] at h9 ⊢; omega), HI.out.1, HI.out.2, ⟨HB3.out, HO3.out⟩⟩
    · obtain rfl : i = L.length := by omega
      have SE := Lib.hid (strs_row I.out.own AF.out (by omega))
      have HLO := Lib.hid (own_low I.out.own)
      have HM := Lib.hid (show AscOf acc L from ⟨ASC.out, fun x => by have := MEM.out x; rwa [List.take_length] at this⟩)
      go_wp2
      go_ret
      exact ⟨_, _, rfl, HM.out, SE.out, HLO.out, I.out.B⟩

end Go.Proofs.YteomlacohddecaaGreat
