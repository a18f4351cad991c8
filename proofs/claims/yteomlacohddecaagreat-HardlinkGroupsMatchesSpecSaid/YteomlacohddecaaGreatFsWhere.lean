/- pathsWhere at every valid tree and every function that says which inodes are wanted: their paths in ascending order. Conditions: the tree's cells lie in memory as they read. -/
import Derived.Test.YteomlacohddecaaGreatFsWalkG
import Derived.Test.YteomlacohddecaaGreatFsPaths
import Derived.Test.YteomlacohddecaaGreatFsPathC
import Derived.Test.YteomlacohddecaaGreatShelf

set_option linter.all false
namespace Go.Proofs.YteomlacohddecaaGreat
open Go.RowKit Go.Sort

/-- What is asked of the function that says which inodes are wanted. -/
structure Wants (gw : FuncId) (capsw : Array Value) (want : Nat → Bool) (w : World) : Prop where
  eg : ∀ args w, (callFunc gw args).run Tryz.prog w = .ok (.enter gw args) w
  call : ∀ W n, Below w.heap.size w W → Calls Tryz.prog gw (#[.int .i64 ((n : Nat) : Int)] ++ capsw) W fun e W' => e = .returned (.bool (want n)) ∧ W' = W
/-- What is found so far: the row of paths in the box pp, its block the visitor's. -/
def WI (w : World) (fv : Value) (want : Nat → Bool) (pw pp : Nat) (W : World) (L : List Vis) (S : Nat → Prop) : Prop :=
  ∃ v, Below w.heap.size w W ∧ One W pw fv ∧ One W pp v ∧ W.ownsRow (pp + 1) 9 1 v (pathsW want L).length ((pathsW want L).map Value.string) ∧ ∀ b, S b ↔ b = pp ∨ v.ownBlock = some b

set_option maxRecDepth 100000 in
set_option maxHeartbeats 3200000 in
theorem where1_any (w : World) (gw : FuncId) (capsw : Array Value) (want : Nat → Bool) (hw : Wants gw capsw want w) (pw pp : Nat) (d1 : w.heap.size ≤ pw) (d2 : pw < pp) {t : Tr} (hd : Head t) (hp4 : Pass t 4)
    (W : World) (L : List Vis) (S : Nat → Prop) (xs : List ByteArray) (n : Nat) (v : Value) (hH : pp + 1 ≤ W.heap.size) (hI : WI w (.func (.func gw) #[] capsw) want pw pp W L S) (hr : Rch t 0 xs n) (hx : Strs W W.heap.size v xs) (_hv : ∀ q, v.ownBlock = some q → pp + 1 ≤ q ∧ ¬ S q) (hL : L.length ≤ 641) :
    Calls Tryz.prog 39 #[v, .int .i64 (n : Int), .pointer (some ⟨pw, 0, none⟩), .pointer (some ⟨pp, 0, none⟩)] W fun e W' => e = .returned (.tuple #[]) ∧ ∃ S', WI w (.func (.func gw) #[] capsw) want pw pp W' (L ++ [(xs, n)]) S' ∧ Kept S none W W' ∧ ∀ b, S' b → S b ∨ W.heap.size ≤ b := by
  obtain ⟨pv, B, ow, op, own, hS⟩ := hI
  have hlen := pathsW_len want L
  have HSN := Lib.hid (pathsW_snoc want L (xs, n))
  have hC := hw.call W n B
  have eg := hw.eg
  have HC := Lib.hid hC
  have HJ := Lib.hid (show Calls Tryz.prog 40 #[v] W fun e w' => e = .returned (.tuple #[.string (bP xs), faultV 0 0]) ∧ Below W.heap.size W w' from by rw [← Pass.joins hd hp4 hr]; exact pathJoin_any v xs W hx)
  have HS := Lib.hid hS
  have OW := Lib.hid ow
  have OP := Lib.hid op
  have ON := Lib.hid own
  have BB := Lib.hid B
  have c1 := ow.c0
  have c2 := op.c0
  have cl1 := ow.lt
  have cl2 := op.lt
  have opz := op.f0
  unfold faultV at HJ
  clear hC hS hx hr _hv ow op own B hw hd hp4
  cases hwn : want n with
  | false =>
    rw [hwn] at HC
    have HF := Lib.hid (show pathsW want (L ++ [(xs, n)]) = pathsW want L from by rw [HSN.out, if_neg (by simp [hwn])])
    clear hwn HSN
    go_enter Tryz.func39, Tryz.ntmps39
    go_wp2_with (go_at_fn gw; refine HC.out.mono ?_; rintro e W1 ⟨rfl, rfl⟩)
    go_end0
    exact ⟨rfl, S, ⟨pv, BB.out, OW.out, OP.out, by rw [HF.out]; exact ON.out, HS.out⟩, Kept.refl _ _ _, fun b hb => .inl hb⟩
  | true =>
    rw [hwn] at HC
    have HF := Lib.hid (show pathsW want (L ++ [(xs, n)]) = pathsW want L ++ [bP xs] from by rw [HSN.out, if_pos (by simp [hwn])])
    clear hwn HSN
    generalize hP : pathsW want L = P at *
    go_enter Tryz.func39, Tryz.ntmps39
    go_wp2_with (go_at_fn gw; refine HC.out.mono ?_; rintro e W1 ⟨rfl, rfl⟩)
    refine HJ.out.mono ?_
    rintro e W2 ⟨rfl, b2⟩
    have k2 := (b2.cell (p := ⟨pp, 0, none⟩) cl2).trans c2
    have z2 := (b2.frozen (p := ⟨pp, 0, none⟩) cl2).trans opz
    have l2 : pp < W2.heap.size := Nat.lt_of_lt_of_le cl2 b2.size
    have O2 := Lib.hid (own_below ON.out b2)
    have B2 := Lib.hid b2
    have Z2 := Lib.hid ((OP.out.below b2 cl2).alloc (.cells #[.int .i64 0, .int .i64 0] 27) |>.alloc (.cells #[.string (bP xs)] 9))
    have B3 := Lib.hid ((b2.alloc b2.size (.cells #[.int .i64 0, .int .i64 0] 27)).alloc (by have := b2.size; first | omega | (simp; omega)) (.cells #[.string (bP xs)] 9))
    have hlow := own_low ON.out
    have HLO := Lib.hid hlow
    have hb2 := b2.size
    clear b2 c1 c2 opz hlow
    go_wp2_with (at_builtin; refine wpList_put1 rfl (.tmp 16) (.tmp 18) rfl (pp + 1) pv _ _ rfl (own_below O2.out (((Below.refl W2.heap.size W2).alloc (Nat.le_refl _) _).alloc (by first | omega | (simp; done) | (simp; omega)) _)) (W2.heap.size + 1) (bP xs) rfl (by simp) (by omega) (by first | omega | (simp; done) | (simp; omega)) ?_; intro g1 cap1 W4 P1; have Z4 := Z2.out.grown P1.grown (fun e => by have := HLO.out pp e.symm; omega); have k4 := Z4.c0; have z4 := Z4.f0; have l4 := Z4.lt)
    have hg1 : g1 ≠ pp := fun e => by
      rcases P1.at_ with h9 | h9
      · have := HLO.out g1 (by rw [h9]; rfl); omega
      · have h8 : g1 = _ := h9.1
        simp at h8; omega
    have FIN : WI w (.func (.func gw) #[] capsw) want pw pp (W4.setCell ⟨pp, 0, none⟩ (.slice (some ⟨g1, 0, none⟩) (P.length + 1) cap1)) (L ++ [(xs, n)]) (fun b => b = pp ∨ b = g1) := by
      refine ⟨_, ?_, ?_, Z4.put _, ?_, fun b => ?_⟩
      · exact ((BB.out.trans (B3.out.mono BB.out.size)).grown P1.grown (by have := BB.out.size; have := B3.out.size; omega) (fun q hq => by have := HLO.out q hq; omega)).setCell (by simp; omega) _
      · exact ((OW.out.below B3.out cl1).grown P1.grown (fun e => by have := HLO.out pw e.symm; omega)).far (by simp; omega) _
      · rw [HF.out, List.map_append, List.length_append]
        exact own_block P1.own (fun q hq hl => Below.heap_setCell _ _ _ _ (fun e => by injection hq with hq; subst hq; exact hg1 e))
      · constructor
        · rintro (h | h)
          · exact .inl h
          · exact .inr (by rw [h]; rfl)
        · rintro (h | h)
          · exact .inl h
          · exact .inr (by injection h with h; exact h.symm)
    have KEP : Kept S none W1 (W4.setCell ⟨pp, 0, none⟩ (.slice (some ⟨g1, 0, none⟩) (P.length + 1) cap1)) := by
      have k0 : Kept S none W1 W4 := ⟨P1.grown.os.trans B3.out.os, P1.grown.tape.trans B3.out.tape, P1.grown.output.trans B3.out.output, Nat.le_trans B3.out.size P1.grown.size, fun k hk hS _ => by
        rw [P1.grown.block k (Nat.lt_of_lt_of_le hk B3.out.size) (fun e => hS ((HS.out k).2 (.inr e.symm))), B3.out.block k hk]⟩
      exact k0.set ((HS.out pp).2 (.inl rfl)) _
    have NEW : ∀ b, (b = pp ∨ b = g1) → S b ∨ W1.heap.size ≤ b := by
      rintro b (h | h)
      · exact .inl ((HS.out b).2 (.inl h))
      · subst h
        rcases P1.at_ with h9 | h9
        · exact .inl ((HS.out _).2 (.inr (by rw [h9]; rfl)))
        · exact .inr (by rw [h9.1]; exact B3.out.size)
    have FF := Lib.hid FIN
    have KK := Lib.hid KEP
    have NN := Lib.hid NEW
    clear FIN KEP NEW P1 Z4 hg1
    go_wp2
    go_end0
    exact ⟨rfl, _, FF.out, KK.out, NN.out⟩

theorem eg_where1 : ∀ args w, (callFunc 39 args).run Tryz.prog w = .ok (.enter 39 args) w := enters_of Tryz.func39 (by kernel_rfl) rfl
theorem enc_row (P : List ByteArray) : P.map Value.string = (P.map (·.data.toList)).map encStr := by
  rw [List.map_map]; exact List.map_congr_left fun x _ => rfl
/-- Sorted bytes of distinct strings, as an ascending list. -/
theorem ascOf_sort {P : List ByteArray} (hn : P.Nodup) : AscOf ((sortN (P.map (·.data.toList))).map fun l => ⟨l.toArray⟩) P := by
  constructor
  · unfold Asc
    rw [List.pairwise_map]
    have h1 := sortN_sorted (P.map (·.data.toList))
    have h2 : (sortN (P.map (·.data.toList))).Nodup := by
      have h3 : (P.map (·.data.toList)).Nodup := by
        unfold List.Nodup
        rw [List.pairwise_map]
        exact List.Pairwise.imp (fun h e => h (bytes_ext e)) hn
      exact (List.mergeSort_perm _ _).nodup_iff.2 h3
    unfold List.Nodup at h2
    refine List.Pairwise.imp ?_ (h1.and h2)
    rintro a b ⟨h4, h5⟩
    have h6 := lt_of_le_ne8 h4 h5
    cases hh : ltS ⟨a.toArray⟩ ⟨b.toArray⟩ with
    | true => rfl
    | false =>
      have := ltS_not.1 hh
      simp at this
      exact absurd h6 (by simpa using this)
  · intro x
    rw [List.mem_map]
    constructor
    · rintro ⟨l, hl, rfl⟩
      obtain ⟨y, hy, rfl⟩ := List.mem_map.1 ((sortN_mem _ _).1 hl)
      rw [show (⟨y.data.toList.toArray⟩ : ByteArray) = y from bytes_ext (by simp)]
      exact hy
    · intro hx
      exact ⟨x.data.toList, (sortN_mem _ _).2 (List.mem_map.2 ⟨x, hx, rfl⟩), bytes_ext (by simp)⟩

end Go.Proofs.YteomlacohddecaaGreat
