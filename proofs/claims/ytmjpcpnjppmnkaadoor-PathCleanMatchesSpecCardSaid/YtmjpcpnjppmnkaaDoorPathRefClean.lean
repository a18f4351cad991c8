/- The reference's Clean at every string: the same path or fault as path.Clean. -/
import Derived.Test.YtmjpcpnjppmnkaaDoorPathClean
import Derived.Laws.AppendOwnNone
import Derived.Deep.RegionHeld3
import Derived.Deep.AppendLies
namespace Go.Proofs.YtmjpcpnjppmnkaaDoor
open Go.RowKit

/-- An append of one owned row to another, as a step of a region that draws its order; the source may be nil. -/
theorem step_append_row {P : Program} {w : World} {ops : Array Oper} {o : Oper} {a : Act} {K : Act → World → Prop} {Q : Exit → Act → World → Prop} {E : Prop} (hgd : o.guard = none) (s x : Operand) (t : TypeId)
    (ho : o.op = .call { callee := .builtin .append, args := #[s, x], argTypes := #[t, t] })
    (base : Nat) (e : TypeId) (i : TypeInfo) (z : Value) (bytes : Nat) (ht : P.underlying t = some (.slice e)) (hi : P.info? e = some i) (hz : i.zero = some z)
    (hsize : i.size = 1) (hby : i.bytes = bytes) (hzs : z.cells.size = 1)
    (v : Value) (n : Nat) (xs : List Value) (hs : a.eval s = v) (hown : w.ownsRow base e 1 v n xs)
    (base' : Nat) (u : Value) (m : Nat) (ys : List Value) (hx : a.eval x = u) (hsrc : w.ownsRow base' e 1 u m ys) (h1 : ∀ y ∈ ys, y.oneCell' = true)
    (h63 : n + m ≤ maxLen) (hbytes : (n + m) * bytes ≤ 140737488355328) (hbase : base ≤ w.heap.size)
    (hK : ∀ v' w', w'.ownsRow base e 1 v' (n + m) (xs ++ ys) → w.grownBy w' v.ownBlock → K (a.put o.dst v') w') :
    if Region.wanted o (yielded ops a.tmps) = true then Oper.wp P o a w K Q else E := by
  have hw : Region.wanted o (yielded ops a.tmps) = true := by simp [Region.wanted, hgd]
  rw [if_pos hw]
  have hl : ys.length = m * 1 := hsrc.1
  rcases hsrc.2 with ⟨rfl, rfl⟩ | ⟨g, cap, cur, rfl, _⟩
  · have hy : ys = [] := List.eq_nil_of_length_eq_zero (by simpa using hl)
    subst hy
    have hrun := run_append_owned_none (P := P) (w := w) base t o.type e i 1 ht hi v n xs hown
    unfold Oper.wp
    simp [execOp, ho, resolve, invoke, builtin, hs, hx, hrun, Result.andThen]
    exact hK v w (by simpa using hown) (World.grownBy.refl _ _)
  · obtain ⟨v', w', hrun, r1, r2, _⟩ := run_append_own (P := P) w base t o.type e i z 1 bytes ht hi hz hsize hby hzs (by decide) v n xs hown ⟨g, 0, none⟩ m cap ys hl (hsrc.cells (g := g) rfl) h1 h63 hbytes hbase
    unfold Oper.wp
    simp [execOp, ho, resolve, invoke, builtin, hs, hx, hrun, Result.andThen]
    exact hK v' w' r1 r2

theorem own_empty (w : World) (base n : Nat) (t : TypeId) (hb : base ≤ w.heap.size) (hn : n = w.heap.size) : (w.alloc (.cells #[] t)).ownsRow base t 1 (.slice (some ⟨n, 0, none⟩) 0 0) 0 [] := by
  subst hn
  exact ⟨rfl, .inr ⟨_, 0, #[], rfl, hb, heap_alloc_new w _, Nat.le_refl _, Nat.zero_le _, rfl, rfl⟩⟩
theorem own_single (w : World) (base n : Nat) (t : TypeId) (u : Value) (hb : base ≤ w.heap.size) (hn : n = w.heap.size) : (w.alloc (.cells #[u] t)).ownsRow base t 1 (.slice (some ⟨n, 0, none⟩) 1 1) 1 [u] := by
  subst hn
  exact ⟨rfl, .inr ⟨_, 1, #[u], rfl, hb, heap_alloc_new w _, Nat.le_refl _, by decide, rfl, rfl⟩⟩

set_option maxHeartbeats 400000 in
theorem refClean_long (s : ByteArray) (w : World) (hs : s.size ≤ maxLen) (hl : 100 < s.size) :
    Calls Tryd.prog 12 #[.string s] w fun e w' => e = .returned (cleanV s) ∧ Below w.heap.size w w' := by
  unfold maxLen at hs
  have HF := Lib.hid (show cleanV s = .tuple #[.string ⟨#[]⟩, .agg #[.int .i64 2, .int .i64 0]] by unfold cleanV; rw [if_pos hl])
  have hl2 : (100 : Int) < (s.size : Int) := by omega
  go_enter Tryd.func12, Tryd.ntmps12
  go_wp2_with fail
  refine (newFault_any _ _ _).mono ?_
  rintro e w' ⟨rfl, hb'⟩
  have hlt' : w.heap.size < w'.heap.size := by have := hb'.size; simp at this; omega
  obtain ⟨_, g0, g1, f0, f1⟩ := (FBox.new w 0 0 24).below hb' (by simp)
  have hB : Below w.heap.size w w' := ((Below.refl _ _).alloc (Nat.le_refl _) _).trans (hb'.mono (by simp))
  clear hb'
  go_wp2
  refine bodyPost_ret (v := .tuple #[.string ⟨#[]⟩, .agg #[.int .i64 2, .int .i64 0]]) ?_ rfl ⟨by rw [HF.out], ?_⟩
  · simp [results, Tryd.results12, go_sem, g0, g1]
  · repeat (first | exact hB | refine Below.setCell ?_ (by simp) _ | refine Below.alloc ?_ (by simp; omega) _ | refine Below.drew ?_)

set_option maxHeartbeats 1000000 in
theorem refClean_short (s : ByteArray) (w : World) (hl : ¬ 100 < s.size) :
    Calls Tryd.prog 12 #[.string s] w fun e w' => e = .returned (cleanV s) ∧ Below w.heap.size w w' := by
  have HF := Lib.hid (show cleanV s = joinV ((comps s.data.toList).foldl stepC []) by unfold cleanV cleanL; rw [if_neg hl])
  have hl2 : ¬ (100 : Int) < (s.size : Int) := by omega
  have hS := fun W => splitAt_any s W (by omega)
  have hcl := comps_len_le s.data.toList
  have hsl : s.data.toList.length = s.size := by simp
  have hnl : (comps s.data.toList).length ≤ 101 := by omega
  clear hcl hsl
  generalize comps s.data.toList = xs at *
  have HS := Lib.hid hS
  clear hS
  obtain ⟨i0, hi, hz0, hz1, hz2⟩ := info_parts info9
  go_enter Tryd.func12, Tryd.ntmps12
  go_wp2_with fail
  refine (HS.out _).mono ?_
  rintro e w1 ⟨v1, rfl, hS1, b1, hvb⟩
  clear hvb
  have B1 : Below w.heap.size w w1 := ((Below.refl _ _).alloc (Nat.le_refl _) _).trans (b1.mono (by simp))
  have X1 := Lib.hid ((FBox.new w 0 0 24).below b1 (by simp))
  have hz : w.heap.size < w1.heap.size := X1.out.lt
  have HS1 := Lib.hid hS1
  clear b1
  obtain ⟨a1, c1, rfl, _, _, _, hx⟩ := hS1
  go_wp2
  go_loopg [5, 6] xs.length (fun gg left i wr => ∃ k : Nat, k ≤ xs.length ∧ xs.length - k ≤ gg ∧ i = .int .i64 k ∧ Aside (wr.ownsRow w1.heap.size 9 1 left ((xs.take k).foldl stepC []).length (((xs.take k).foldl stepC []).map Value.string)) ∧ Aside (Below w1.heap.size w1 wr))
  case atStart => exact ⟨0, Nat.zero_le _, by omega, rfl, ⟨rfl, .inl ⟨rfl, rfl⟩⟩, Below.refl _ _⟩
  case round =>
    obtain ⟨k, hk, hgg, rfl, OW, BW⟩ := hrel
    by_cases hlt : k < xs.length
    · have hltz : (k : Int) < (xs.length : Int) := by omega
      obtain ⟨b, o, rfl, hb, hj⟩ := hx (by omega)
      have hcell : wr.cell? ⟨b, o + k, none⟩ = some (.string (xs.getD k ByteArray.empty)) := (BW.out.cell (p := ⟨b, o + k, none⟩) hb).trans (hj k hlt)
      have HT := Lib.hid (fold_take hlt)
      have hal : ((xs.take k).foldl stepC []).length ≤ 1000 := by
        have := fold_len (xs.take k) []
        have h2 : (xs.take k).length ≤ xs.length := by simp; omega
        simp at this h2; omega
      clear hx hj
      generalize xs.getD k ByteArray.empty = y at *
      generalize (xs.take k).foldl stepC [] = acc at *
      by_cases h0 : y.toList = [] ∨ y.toList = [46]
      · have HS := Lib.hid (show stepC acc y = acc by unfold stepC; rw [if_pos h0])
        have b4 : (y.toList == [46, 46]) = false := by
          rw [beq_eq_false_iff_ne]
          rcases h0 with h | h <;> rw [h] <;> simp
        by_cases h1 : y.toList = []
        · have b1 : y.toList.isEmpty = true := by rw [h1]; rfl
          clear h0 h1
          go_wp2
          go_roundg (xs.length - (k + 1))
          case measure => omega
          case rel => exact ⟨k + 1, by omega, by omega, by go_num, by rw [HT.out, HS.out]; exact OW, BW⟩
        · have b1 := isEmpty_false h1
          have b2 : (y.toList == [46]) = true := by
            rcases h0 with h | h
            · exact absurd h h1
            · rw [h]; rfl
          clear h0 h1
          go_wp2
          go_roundg (xs.length - (k + 1))
          case measure => omega
          case rel => exact ⟨k + 1, by omega, by omega, by go_num, by rw [HT.out, HS.out]; exact OW, BW⟩
      · by_cases h1 : y.toList = [46, 46]
        · have HS := Lib.hid (show stepC acc y = acc.dropLast by unfold stepC; rw [if_neg h0, if_pos h1])
          have b1 := isEmpty_false (fun h => h0 (Or.inl h))
          have b2 : (y.toList == [46]) = false := by rw [h1]; rfl
          have b3 : (y.toList == [46, 46]) = true := by rw [h1]; rfl
          clear h0 h1
          by_cases ha : acc = []
          · subst ha
            have hv : u5 = .slice none 0 0 ∨ ∃ a cap, u5 = .slice (some a) 0 cap := by
              rcases OW.out.2 with ⟨h, _⟩ | ⟨g, cap, cur, h, _⟩
              · exact .inl h
              · exact .inr ⟨_, cap, h⟩
            rcases hv with rfl | ⟨a, cap, rfl⟩
            · go_wp2
              go_roundg (xs.length - (k + 1))
              case measure => omega
              case rel => exact ⟨k + 1, by omega, by omega, by go_num, by rw [HT.out, HS.out]; exact OW, BW⟩
            · go_wp2
              go_roundg (xs.length - (k + 1))
              case measure => omega
              case rel => exact ⟨k + 1, by omega, by omega, by go_num, by rw [HT.out, HS.out]; exact OW, BW⟩
          · obtain ⟨init, last, rfl⟩ : ∃ init last, acc = init ++ [last] := ⟨_, _, (List.dropLast_concat_getLast ha).symm⟩
            rw [List.dropLast_concat] at HS
            have hown := OW.out
            rw [List.length_append, List.length_singleton] at hown hal
            rw [List.map_append, List.map_singleton] at hown
            obtain ⟨g, cap, rfl, hcap⟩ : ∃ g cap, u5 = .slice (some ⟨g, 0, none⟩) (init.length + 1) cap ∧ init.length + 1 ≤ cap := by
              rcases hown.2 with ⟨_, h⟩ | ⟨g, cap, cur, h, _, _, h2, _⟩
              · omega
              · exact ⟨g, cap, h, h2⟩
            have HO := Lib.hid (ownsRow_pop (by simp) hown)
            clear hown ha OW
            go_wp2
            go_roundg (xs.length - (k + 1))
            case measure => omega
            case rel => exact ⟨k + 1, by omega, by omega, by go_num, by rw [HT.out, HS.out]; exact HO.out, BW⟩
        · have HS := Lib.hid (show stepC acc y = acc ++ [y] by unfold stepC; rw [if_neg h0, if_neg h1])
          have b1 := isEmpty_false (fun h => h0 (Or.inl h))
          have b2 : (y.toList == [46]) = false := by rw [beq_eq_false_iff_ne]; exact fun h => h0 (Or.inr h)
          have b3 : (y.toList == [46, 46]) = false := by rw [beq_eq_false_iff_ne]; exact h1
          clear h0 h1
          have hbase := BW.out.size
          have hcb : b < wr.heap.size := by omega
          have hi0 : (0 : Int) ≤ (k : Int) := Int.natCast_nonneg _
          have hi1 : (k : Int) < (xs.length : Int) := hltz
          have OE : ∀ (w' : World) (n : Nat), w1.heap.size ≤ w'.heap.size → n = w'.heap.size → (w'.alloc (.cells #[] 9)).ownsRow w1.heap.size 9 1 (.slice (some ⟨n, 0, none⟩) 0 0) 0 [] := fun w' n h1 h2 => own_empty w' w1.heap.size n 9 h1 h2
          have HE := Lib.hid OE
          clear OE
          have hone : ∀ z ∈ acc.map Value.string, z.oneCell' = true := fun z hz => by
            obtain ⟨x, _, rfl⟩ := List.mem_map.1 hz; rfl
          have H1 := Lib.hid hone
          clear hone
          go_wp2_with fail
          go_region_held3 (fun w' => w'.cell? ⟨b, o + k, none⟩ = some (.string y))
            (first
              | go_keep
              | (rw [hgrow1.cell_far _ (by simp; omega) (by simp [Value.ownBlock]; omega)]; assumption)
              | (rw [hgrow2.cell_far _ (by simp; omega) (fun e => by have h9 := (hown1.lt b e.symm).1; omega)]; assumption))
            (first
              | (refine step_append_row (by rfl) (.tmp 53) (.tmp 54) 22 (by rfl) w1.heap.size 9 i0 (.string ByteArray.empty) 16 Tryd.underlying22 hi hz0 hz1 hz2 (by rfl) (.slice (some ⟨wr.heap.size, 0, none⟩) 0 0) 0 [] (by simp [Act.eval]) ((HE.out wr _ hbase rfl).drew) w1.heap.size u5 acc.length (acc.map Value.string) (by simp [Act.eval]) ((OW.out.alloc _).drew) H1.out (by unfold maxLen; omega) (by omega) (by first | omega | (simp; omega)) ?_; intro v1 w2 hown1 hgrow1; have hs2 : wr.heap.size ≤ w2.heap.size := (by have := hgrow1.size; simp at this; omega))
              | (refine step_append_row (by rfl) (.tmp 53) (.tmp 54) 22 (by rfl) w1.heap.size 9 i0 (.string ByteArray.empty) 16 Tryd.underlying22 hi hz0 hz1 hz2 (by rfl) (.slice (some ⟨wr.heap.size, 0, none⟩) 0 0) 0 [] (by simp [Act.eval]) (((HE.out wr _ hbase rfl).alloc _).drew) w1.heap.size u5 acc.length (acc.map Value.string) (by simp [Act.eval]) (((OW.out.alloc _).alloc _).drew) H1.out (by unfold maxLen; omega) (by omega) (by first | omega | (simp; omega)) ?_; intro v1 w2 hown1 hgrow1; have hs2 : wr.heap.size ≤ w2.heap.size := (by have := hgrow1.size; simp at this; omega))
              | (refine step_append_row (by rfl) (.tmp 53) (.tmp 54) 22 (by rfl) w1.heap.size 9 i0 (.string ByteArray.empty) 16 Tryd.underlying22 hi hz0 hz1 hz2 (by rfl) (.slice (some ⟨wr.heap.size + 1, 0, none⟩) 0 0) 0 [] (by simp [Act.eval]) ((HE.out (wr.alloc (.cells #[.string y] 9)) _ (by simp; omega) (by simp)).drew) w1.heap.size u5 acc.length (acc.map Value.string) (by simp [Act.eval]) (((OW.out.alloc _).alloc _).drew) H1.out (by unfold maxLen; omega) (by omega) (by first | omega | (simp; omega)) ?_; intro v1 w2 hown1 hgrow1; have hs2 : wr.heap.size ≤ w2.heap.size := (by have := hgrow1.size; simp at this; omega))
              | (refine step_append_row (by rfl) (.tmp 55) (.tmp 60) 22 (by rfl) w1.heap.size 9 i0 (.string ByteArray.empty) 16 Tryd.underlying22 hi hz0 hz1 hz2 (by rfl) v1 (0 + acc.length) ([] ++ acc.map Value.string) (by simp [Act.eval]) (hown1.alloc _) w1.heap.size (.slice (some ⟨w2.heap.size, 0, none⟩) 1 1) 1 [.string y] (by simp [Act.eval]) (own_single w2 w1.heap.size _ 9 _ (by omega) rfl) (by simp [Value.oneCell']) (by unfold maxLen; omega) (by omega) (by first | omega | (simp; omega)) ?_; intro v2 w3 hown2 hgrow2)
              | (refine step_append_row (by rfl) (.tmp 55) (.tmp 60) 22 (by rfl) w1.heap.size 9 i0 (.string ByteArray.empty) 16 Tryd.underlying22 hi hz0 hz1 hz2 (by rfl) v1 (0 + acc.length) ([] ++ acc.map Value.string) (by simp [Act.eval]) hown1 w1.heap.size (.slice (some ⟨wr.heap.size + 1, 0, none⟩) 1 1) 1 [.string y] (by simp [Act.eval]) (((own_single (wr.alloc (.cells #[] 9)) w1.heap.size (wr.heap.size + 1) 9 (.string y) (by simp; omega) (by simp)).drew).kept hgrow1 (.inr (by simp [Value.ownBlock]))) (by simp [Value.oneCell']) (by unfold maxLen; omega) (by omega) (by first | omega | (simp; omega)) ?_; intro v2 w3 hown2 hgrow2)
              | (refine step_append_row (by rfl) (.tmp 55) (.tmp 60) 22 (by rfl) w1.heap.size 9 i0 (.string ByteArray.empty) 16 Tryd.underlying22 hi hz0 hz1 hz2 (by rfl) v1 (0 + acc.length) ([] ++ acc.map Value.string) (by simp [Act.eval]) hown1 w1.heap.size (.slice (some ⟨wr.heap.size, 0, none⟩) 1 1) 1 [.string y] (by simp [Act.eval]) ((((own_single wr w1.heap.size wr.heap.size 9 (.string y) (by omega) rfl).alloc _).drew).kept hgrow1 (.inr (by simp [Value.ownBlock]))) (by simp [Value.oneCell']) (by unfold maxLen; omega) (by omega) (by first | omega | (simp; omega)) ?_; intro v2 w3 hown2 hgrow2)
              | ((trace_state; fail)))
          all_goals
            have HB2 : Below w1.heap.size w1 w2 := by
              first
                | exact ((BW.out.alloc hbase _).drew).grown hgrow1 (by simp; omega) (fun g hg => by simp [Value.ownBlock] at hg; omega)
                | exact (((BW.out.alloc hbase _).alloc (by simp; omega) _).drew).grown hgrow1 (by simp; omega) (fun g hg => by simp [Value.ownBlock] at hg; omega)
            have HB3 : Below w1.heap.size w1 w3 := by
              first
                | exact HB2.grown hgrow2 (by omega) (fun g hg => (hown1.lt g hg).1)
                | exact (HB2.alloc (by omega) _).grown hgrow2 (by simp; omega) (fun g hg => (hown1.lt g hg).1)
            have HO := Lib.hid (show w3.ownsRow w1.heap.size 9 1 v2 (acc ++ [y]).length ((acc ++ [y]).map Value.string) from by simpa using hown2)
            have HBB := Lib.hid HB3
            clear HB2 HB3 hgrow1 hgrow2 hown1 hown2
            go_wp2
            go_roundg (xs.length - (k + 1))
            case measure => omega
            case rel => exact ⟨k + 1, by omega, by omega, by go_num, by rw [HT.out, HS.out]; exact HO.out, HBB.out⟩
    · have hltz : ¬ (k : Int) < (xs.length : Int) := by omega
      have e : k = xs.length := by omega
      have OW2 := Lib.hid (show wr.ownsRow w1.heap.size 9 1 u5 (xs.foldl stepC []).length ((xs.foldl stepC []).map Value.string) from by
        have := OW.out
        rwa [e, List.take_length] at this)
      have hfm : ∀ x ∈ xs.foldl stepC [], x.size ≤ maxLen := fun x hx => by
        obtain ⟨_, _, _, _, _, hs, _⟩ := HS1.out
        rcases fold_mem xs [] x hx with h | h
        · cases h
        · exact hs x h
      have hfl : (xs.foldl stepC []).length ≤ 8796093022208 := by
        have := fold_len xs []
        simp at this; omega
      have hcon := refJoin_any u5 _ wr (strs_own OW2.out hfl hfm)
      have hszr := BW.out.size
      have BR : Below w.heap.size w wr := B1.trans (BW.out.mono (by omega))
      have XR : FBox wr w.heap.size 0 0 := X1.out.below BW.out hz
      obtain ⟨S, c, i, hJ⟩ := joinV_form (xs.foldl stepC [])
      have HV := Lib.hid (show cleanV s = .tuple #[.string S, .agg #[.int .i64 c, .int .i64 i]] by rw [HF.out, hJ])
      rw [hJ] at hcon
      have HC := Lib.hid hcon
      clear hfm hfl hJ hcon e hx
      go_wp2_with fail
      refine HC.out.mono ?_
      rintro e w3 ⟨rfl, b3⟩
      obtain ⟨l1, g0, g1, f0, f1⟩ := XR.below b3 XR.lt
      have B3 : Below w.heap.size w w3 := BR.trans (b3.mono (by omega))
      clear b3
      go_wp2
      refine bodyPost_ret (v := .tuple #[.string S, .agg #[.int .i64 c, .int .i64 i]]) ?_ rfl ⟨by rw [HV.out], ?_⟩
      · simp [results, Tryd.results12, go_sem, g0, g1]
      · repeat (first | exact B3 | refine Below.setCell ?_ (by first | omega | (simp; done) | (simp; omega)) _ | refine Below.alloc ?_ (by first | omega | (simp; done) | (simp; omega)) _ | refine Below.drew ?_)

end Go.Proofs.YtmjpcpnjppmnkaaDoor
