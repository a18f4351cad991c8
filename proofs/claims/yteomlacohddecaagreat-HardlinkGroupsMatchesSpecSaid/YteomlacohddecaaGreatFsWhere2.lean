/- pathsWhere at every valid tree: the paths of the wanted inodes in ascending order. Conditions: the function that says which inodes are wanted says so in every later world; the tree's cells lie in memory as they read. -/
import Derived.Test.YteomlacohddecaaGreatFsWhere
import Derived.Sort.OwnSorted
import Derived.Lib.OwnBridge

set_option linter.all false
namespace Go.Proofs.YteomlacohddecaaGreat
open Go.RowKit Go.Sort

theorem whereV {w : World} {gw : FuncId} {capsw : Array Value} {want : Nat → Bool} (hw : Wants gw capsw want w) {pw pp : Nat} (d1 : w.heap.size ≤ pw) (d2 : pw < pp) {t : Tr} (hd : Head t) (hp4 : Pass t 4) :
    VisG t 0 39 #[.pointer (some ⟨pw, 0, none⟩), .pointer (some ⟨pp, 0, none⟩)] (pp + 1) (fun W L S => WI w (.func (.func gw) #[] capsw) want pw pp W L S) (fun L p => L ++ [p]) [] := by
  have o2 := Pass.ok2 hd (hp4.mono (by omega))
  refine ⟨eg_where1, fun W L S hI b hb => ?_, fun W W' L S hI hb hS => ?_, fun W L S xs n v hH hI hr hx hv hpos => ?_⟩
  · obtain ⟨pv, B, ow, op, own, hS⟩ := hI
    rcases (hS b).1 hb with h | h
    · rw [h]; exact op.lt
    · exact own_in own b h
  · obtain ⟨pv, B, ow, op, own, hs⟩ := hI
    exact ⟨pv, B.trans (hb.mono (by omega)), ow.below hb (by omega), op.below hb (by omega), own_block own (fun g hg _ => hS g ((hs g).2 (.inr hg))), hs⟩
  · obtain ⟨l1, l2, e1, e2⟩ := hpos
    rw [foldl_snoc, List.nil_append] at e2
    subst e2
    have h6 := len_visits o2.toOk1 o2.from0
    rw [e1, List.length_append] at h6
    exact where1_any w gw capsw want hw pw pp d1 d2 hd hp4 W L S xs n v hH hI hr hx hv (by omega)

/-- What SortPost says, and that the row is the call's own. -/
def OwnPost (L : List ByteArray) (w : World) (e : Ending) (w' : World) : Prop := ∃ v P, e = .returned v ∧ AscOf P L ∧ Strs w' w'.heap.size v P ∧ (∀ q, v.ownBlock = some q → w.heap.size ≤ q) ∧ Below w.heap.size w w' ∧ w'.ownsRow w.heap.size 9 1 v P.length (P.map Value.string)

set_option maxRecDepth 100000 in
set_option maxHeartbeats 3200000 in
theorem pathsWhere_own (a : Option Addr) (c : Nat) (t : Tr) (w : World) (hd : Head t) (hp4 : Pass t 4) (h : Nods w w.heap.size a c t) (gw : FuncId) (capsw : Array Value) (want : Nat → Bool) (hw : Wants gw capsw want w) :
    Calls Tryz.prog 24 #[.agg #[.slice a t.length c], .func (.func gw) #[] capsw] w (OwnPost (pathsW want (visits t 0)) w) := by
  have o2 := Pass.ok2 hd (hp4.mono (by omega))
  have hnd := pathsW_nodup o2.toOk1 o2.from0 want (List.Perm.refl (visits t 0))
  have hfits := pathsW_fits o2.toOk1 o2.from0 (want := want) (List.Perm.refl (visits t 0))
  have hl6 := len_visits o2.toOk1 o2.from0
  have hll := pathsW_len want (visits t 0)
  have H := Lib.hid h
  have HW := Lib.hid hw
  have HD := Lib.hid hd
  have HP := Lib.hid hp4
  have HO2 := Lib.hid o2
  clear h hw hd hp4 o2
  have BB := Lib.hid (show Below w.heap.size w (((w.alloc (.cells #[.slice a t.length c] 24)).alloc (.cells #[.func (.func gw) #[] capsw] 64)).alloc (.cells #[.slice none 0 0] 39)) from
    (((Below.refl _ _).alloc (Nat.le_refl _) _).alloc (by first | omega | (simp; done) | (simp; omega)) _).alloc (by first | omega | (simp; done) | (simp; omega)) _)
  have II := Lib.hid (show WI w (.func (.func gw) #[] capsw) want (w.heap.size + 1) (w.heap.size + 1 + 1) (((w.alloc (.cells #[.slice a t.length c] 24)).alloc (.cells #[.func (.func gw) #[] capsw] 64)).alloc (.cells #[.slice none 0 0] 39)) [] (fun b => b = w.heap.size + 1 + 1) from
    ⟨.slice none 0 0, BB.out, ((One.new (w.alloc _) _ _).alloc _).at_ (by simp), (One.new ((w.alloc _).alloc _) _ _).at_ (by simp), ⟨rfl, .inl ⟨rfl, rfl⟩⟩, fun b => ⟨fun h => .inl h, fun h => by
      rcases h with h | h
      · exact h
      · simp [Value.ownBlock] at h⟩⟩)
  go_enter Tryz.func24, Tryz.ntmps24
  go_wp2_with fail
  have HWK := walkG_any (whereV HW.out (pw := w.heap.size + 1) (pp := w.heap.size + 1 + 1) (by omega) (by omega) HD.out HP.out) HO2.out.toOk1 HO2.out.from0 (Bt := w.heap.size) (by omega) a c _ _ (fun b hb => by omega) (H.out.below BB.out) (by first | omega | (simp; done) | (simp; omega)) II.out
  refine HWK.mono ?_
  rintro e W5 ⟨rfl, S', I5, K5, N5⟩
  rw [foldl_snoc, List.nil_append] at I5
  obtain ⟨pv, B, ow, op, own, hS⟩ := I5
  clear HWK K5 N5 hS ow II BB
  generalize pathsW want (visits t 0) = P at *
  have oc := op.c0
  have ol := op.lt
  rw [enc_row] at own
  have hlen : (P.map (·.data.toList)).length = P.length := by simp
  by_cases hv : pv = .slice none 0 0
  · have h0 : P.length = 0 := by
      rcases own.2 with ⟨_, h0⟩ | ⟨g, cap, cur, hv2, _⟩
      · exact h0
      · rw [hv] at hv2; cases hv2
    subst hv
    have HL := Lib.hid (List.eq_nil_of_length_eq_zero h0)
    have c1 := Tryz.slices_Sort_string_none none 0 W5
    have BH := Lib.hid B
    clear own h0 hlen hnd hfits B
    go_wp2_with fail
    refine c1.mono ?_
    rintro e w4 ⟨rfl, rfl⟩
    go_wp2
    go_ret
    exact ⟨_, [], rfl, by rw [HL.out]; exact ⟨List.Pairwise.nil, fun x => Iff.rfl⟩, ⟨none, 0, rfl, by simp, by simp, by simp, fun h => absurd h (by simp)⟩, fun q hq => by simp [Value.ownBlock] at hq, BH.out, ⟨rfl, .inl ⟨rfl, rfl⟩⟩⟩
  · obtain ⟨g, cap, rfl, hbg, hgl, hncap, hcm, hlen2, hH⟩ := Lib.holds_of_ownsRow own hv
    rcases own.2 with ⟨h0, _⟩ | ⟨g', cap', cur, hv2, hbase, hb, h1, h2, h3, h4⟩
    · cases h0
    cases hv2
    have hsort := Tryz.slices_Sort_string g 0 cap (P.map (·.data.toList)) W5 hH hgl (by omega)
    rw [hlen] at hsort
    have hl2 : (sortN (P.map (·.data.toList))).length = P.length := by unfold sortN; rw [List.length_mergeSort, hlen]
    have HSN := Lib.hid (show sortN (P.map (·.data.toList)) = (P.map (·.data.toList)).mergeSort fun x y => decide (x ≤ y) from rfl)
    rw [← HSN.out] at hsort
    have hO2 := fun n os => ownsRow_sorted (n := n) (os := os) (ts := sortN (P.map (·.data.toList))) (ss := P.map (·.data.toList)) (by rw [hl2, hlen]) hbase hb (by rw [hlen]; exact h1) h2 h3
    have hG := fun n os => grownBy_sorted (w := W5) (g := g) (n := n) (os := os) (sortN (P.map (·.data.toList))).toArray
    have hAS := ascOf_sort hnd
    have hfs : ∀ x ∈ (sortN (P.map (·.data.toList))).map (fun l => (⟨l.toArray⟩ : ByteArray)), x.size ≤ maxLen := fun x hx => hfits x ((hAS.2 x).1 hx)
    have hne : w.heap.size + 1 + 1 ≠ g := by omega
    have HEND := Lib.hid (show ∀ n os, OwnPost P w (.returned (.slice (some ⟨g, 0, none⟩) P.length cap)) (grow (putRow encStr (Sort.ahead W5 n) g 0 (sortN (P.map (·.data.toList))).toArray) os) from fun n os => by
      have h5 := hO2 n os
      rw [hlen, show (sortN (P.map (·.data.toList))).map encStr = ((sortN (P.map (·.data.toList))).map (fun l => (⟨l.toArray⟩ : ByteArray))).map Value.string from by rw [List.map_map]; exact List.map_congr_left fun x _ => by simp [encStr]] at h5
      refine ⟨_, _, rfl, hAS, strs_row h5 hfs (by rw [List.length_map, hl2]; omega), fun q hq => by (have e9 : g = q := by injection hq); omega, B.grown (hG n os) B.size (fun j hj => by cases hj; omega), ?_⟩
      have h6 : ((sortN (P.map (·.data.toList))).map (fun l => (⟨l.toArray⟩ : ByteArray))).length = P.length := by rw [List.length_map, hl2]
      rw [h6]
      exact own_le h5 (by omega))
    have HOP := Lib.hid (show ∀ n os, One (grow (putRow encStr (Sort.ahead W5 n) g 0 (sortN (P.map (·.data.toList))).toArray) os) (w.heap.size + 1 + 1) (.slice (some ⟨g, 0, none⟩) P.length cap) from fun n os => op.grown (hG n os) (fun e => by injection e with e; exact hne e))
    have HSORT := Lib.hid hsort
    clear hsort hO2 hG hAS hfs hH hb h1 h2 h3 h4 hfits hnd own B op
    go_wp2_with fail
    refine HSORT.out.mono ?_
    rintro e w4 ⟨rfl, n, os, rfl⟩
    have oc2 := (HOP.out n os).c0
    have ol2 := (HOP.out n os).lt
    have HE := Lib.hid (HEND.out n os)
    clear HEND HOP HSORT
    generalize grow (putRow encStr (Sort.ahead W5 n) g 0 (sortN (P.map (·.data.toList))).toArray) os = w6 at *
    go_wp2
    go_ret
    exact HE.out

theorem pathsWhere_any (a : Option Addr) (c : Nat) (t : Tr) (w : World) (hd : Head t) (hp4 : Pass t 4) (h : Nods w w.heap.size a c t) (gw : FuncId) (capsw : Array Value) (want : Nat → Bool) (hw : Wants gw capsw want w) :
    Calls Tryz.prog 24 #[.agg #[.slice a t.length c], .func (.func gw) #[] capsw] w (SortPost (pathsW want (visits t 0)) w) :=
  (pathsWhere_own a c t w hd hp4 h gw capsw want hw).mono fun _ _ ⟨v, P, he, ha, hs, hl, hb, _⟩ => ⟨v, P, he, ha, hs, hl, hb⟩

end Go.Proofs.YteomlacohddecaaGreat
