/- acl.Simplify at every list: the stripped entries, or the fault. Conditions: the slice's cells lie in memory as they read. -/
import Derived.Test.YtbmcfhojhngpkaaAclSimp1
import Derived.Test.YtbmcfhojhngpkaaAclOwn
import Derived.Test.YtbmcfhojhngpkaaAclRow
import Derived.OpenShut
import Derived.OneCell
namespace Go.Proofs.Ytbmcfhojhngpkaa
open Go.RowKit

/-- The permissions that e never decides behind bs. -/
def usel (e : Ent) (bs : List Ent) : Int := pw (nev e bs) 4
def strip (e : Ent) (U : Int) : Ent := ⟨e.u, bits .andNot .i64 e.a U, bits .andNot .i64 e.d U⟩
def keepE (e : Ent) : Bool := bits .or .i64 e.a e.d != 0
/-- What the first k entries leave. -/
def simpK (xs : List Ent) : Nat → List Ent
  | 0 => []
  | k + 1 => simpK xs k ++ (if keepE (strip (xs.getD k E0) (usel (xs.getD k E0) (xs.take k))) then [strip (xs.getD k E0) (usel (xs.getD k E0) (xs.take k))] else [])
theorem simpK_yes {xs : List Ent} {k : Nat} {e : Ent} {U : Int} (he : xs.getD k E0 = e) (hU : usel e (xs.take k) = U) (h : keepE (strip e U) = true) : simpK xs (k + 1) = simpK xs k ++ [strip e U] := by
  subst he hU
  conv => lhs; unfold simpK
  rw [if_pos h]
theorem simpK_no {xs : List Ent} {k : Nat} {e : Ent} {U : Int} (he : xs.getD k E0 = e) (hU : usel e (xs.take k) = U) (h : keepE (strip e U) = false) : simpK xs (k + 1) = simpK xs k := by
  subst he hU
  conv => lhs; unfold simpK
  rw [if_neg (by rw [h]; simp), List.append_nil]
theorem i64_bits (op : BinOp) (x y : Int) : i64 (bits op .i64 x y) := wf_int (Go.wf_bits op .i64 x y)
theorem strip_fits {e : Ent} (U : Int) (h : e.fits) : (strip e U).fits :=
  show i64 e.u ∧ i64 (bits .andNot .i64 e.a U) ∧ i64 (bits .andNot .i64 e.d U) from ⟨h.1, i64_bits .andNot e.a U, i64_bits .andNot e.d U⟩
theorem simpK_fits {xs : List Ent} (hf : ∀ e ∈ xs, e.fits) : ∀ k, k ≤ xs.length → (∀ e ∈ simpK xs k, e.fits) ∧ (simpK xs k).length ≤ k
  | 0, _ => by unfold simpK; simp
  | k + 1, h => by
    have ih := simpK_fits hf k (by omega)
    have hm := hf (xs.getD k E0) (by rw [entD (by omega)]; exact List.getElem_mem _)
    cases hk : keepE (strip (xs.getD k E0) (usel (xs.getD k E0) (xs.take k))) with
    | true =>
      rw [simpK_yes rfl rfl hk]
      refine ⟨fun e he => ?_, by simp; exact ih.2⟩
      rcases List.mem_append.1 he with he | he
      · exact ih.1 e he
      · rw [List.mem_singleton.1 he]; exact strip_fits _ hm
    | false => rw [simpK_no rfl rfl hk]; exact ⟨ih.1, by omega⟩
def simpOf (xs : List Ent) : List Ent := if (valF xs).1 = 0 then simpK xs xs.length else []
def SimpPost (xs : List Ent) (w : World) (e : Ending) (w' : World) : Prop :=
  ∃ v, e = .returned (.tuple #[v, .agg #[.int .i64 (valF xs).1, .int .i64 (valF xs).2]]) ∧ Acls w' w'.heap.size v (simpOf xs) ∧ Below w.heap.size w w'
theorem simp_bad {xs : List Ent} {c i : Int} {w w' : World} (h : valF xs = (c, i)) (hc : ¬ c = 0) (hb : Below w.heap.size w w') : SimpPost xs w (.returned (.tuple #[.slice none 0 0, .agg #[.int .i64 c, .int .i64 i]])) w' := by
  refine ⟨_, by rw [h], ?_, hb⟩
  unfold simpOf; rw [h, if_neg hc]; exact Acls.none_ _ _

/-- Block n holds an entry. -/
structure EB (w : World) (n : Nat) (u a d : Int) : Prop where
  lt : n < w.heap.size
  c0 : w.cell? ⟨n, 0, none⟩ = some (.int .i64 u)
  c1 : w.cell? ⟨n, 1, none⟩ = some (.int .i64 a)
  c2 : w.cell? ⟨n, 2, none⟩ = some (.int .i64 d)
  f1 : w.frozen? ⟨n, 1, none⟩ = false
  f2 : w.frozen? ⟨n, 2, none⟩ = false
theorem EB.new (w : World) (u a d : Int) (t : TypeId) : EB (w.alloc (.cells #[.int .i64 u, .int .i64 a, .int .i64 d] t)) w.heap.size u a d :=
  ⟨by simp, by simp, by simp, by simp, by simp, by simp⟩
theorem EB.below {w w' : World} {B n : Nat} {u a d : Int} (h : EB w n u a d) (hb : Below B w w') (hn : n < B) : EB w' n u a d :=
  ⟨Nat.lt_of_lt_of_le h.lt hb.size, (hb.cell (p := ⟨n, 0, none⟩) hn).trans h.c0, (hb.cell (p := ⟨n, 1, none⟩) hn).trans h.c1, (hb.cell (p := ⟨n, 2, none⟩) hn).trans h.c2,
    (hb.frozen (p := ⟨n, 1, none⟩) hn).trans h.f1, (hb.frozen (p := ⟨n, 2, none⟩) hn).trans h.f2⟩
theorem EB.at_ {w : World} {n n' : Nat} {u a d : Int} (h : EB w n u a d) (e : n = n') : EB w n' u a d := e ▸ h

/-- What holds at the head of Simplify's loop after k rounds. -/
structure SInv (w wr : World) (v0 : Value) (xs : List Ent) (n1 base : Nat) (k : Nat) (v : Value) : Prop where
  B : Below w.heap.size w wr
  X : FBox wr n1 0 0
  G0 : One wr w.heap.size v0
  bs : base ≤ wr.heap.size
  own : wr.ownsRow base 27 3 v (simpK xs k).length (flatE (simpK xs k))

set_option maxHeartbeats 1600000 in
theorem simplify_any (v : Value) (xs : List Ent) (w : World) (h : Acls w w.heap.size v xs) :
    Calls Try.prog 16 #[v] w (SimpPost xs w) := by
  have c1 := fun W (hb : Below w.heap.size w W) => validate_any v xs W ((h.below hb).more hb.size)
  have H := Lib.hid h
  obtain ⟨av, cv, rfl, hcl, _, hfit, hx⟩ := h
  generalize hv : valF xs = p
  obtain ⟨c, i⟩ := p
  rw [valV_pair hv] at c1
  have C1 := Lib.hid c1
  clear c1
  by_cases hc : c = 0
  · subst hc
    have hv0 := valF_zero (xs := xs) (by rw [hv])
    obtain rfl : i = 0 := by rw [hv] at hv0; injection hv0
    have hx6 := (valF_ok hv0).1
    have HV := Lib.hid hv
    have HX := Lib.hid hx
    have HF := Lib.hid hfit
    clear hv hv0 hx hfit
    go_enter Try.func16, Try.ntmps16
    go_wp2_with fail
    refine (C1.out _ (((Below.refl _ _).alloc (Nat.le_refl _) _).alloc (by simp) _)).mono ?_
    rintro e w1 ⟨rfl, b1⟩
    have B1 : Below w.heap.size w w1 := (((Below.refl _ _).alloc (Nat.le_refl _) _).alloc (by simp) _).trans (b1.mono (by simp; omega))
    have X1 := ((FBox.new (w.alloc (.cells #[.slice av xs.length cv] 22)) 0 0 24).below b1 (by simp)).at_ (n' := w.heap.size + 1) (by simp)
    have G0 := (((One.new w (.slice av xs.length cv) 22).alloc (.cells #[.int .i64 0, .int .i64 0] 24)).below b1 (by first | omega | (simp; done) | (simp; omega)))
    have hs1 := b1.size
    simp at hs1
    clear b1
    have q1 : w.heap.size ≤ w.heap.size + 1 := by omega
    have q2 : w.heap.size + 1 < w.heap.size + 2 := by omega
    have hs2 : w.heap.size + 2 ≤ w1.heap.size := by omega
    clear hs1
    generalize w.heap.size + 2 = base at *
    generalize w.heap.size + 1 = n1 at *
    have g0 := G0.c0
    have hl0 := G0.lt
    go_wp2_with fail
    have IN : SInv w (w1.alloc (.cells #[.int .i64 0, .int .i64 0] 24)) (.slice av xs.length cv) xs n1 base 0 (.slice none 0 0) :=
      ⟨B1.alloc B1.size _, X1.alloc _, G0.alloc _, by simp; omega, ⟨rfl, .inl ⟨rfl, rfl⟩⟩⟩
    have II := Lib.hid IN
    clear IN X1 G0 B1 g0 hl0
    go_loopg [5, 6, 7, 8, 17] xs.length (fun gg s5 _ _ _ s17 wr => ∃ k : Nat, k ≤ xs.length ∧ xs.length - k ≤ gg ∧ s17 = .int .i64 k ∧ Aside (SInv w wr (.slice av xs.length cv) xs n1 base k s5))
    case atStart => exact ⟨0, by omega, by omega, rfl, II.out⟩
    case round =>
      obtain ⟨k, hk, hg, rfl, I⟩ := hrel
      clear II
      by_cases hlt : k < xs.length
      · have hltz : (k : Int) < (xs.length : Int) := by omega
        obtain ⟨b, of, rfl, hb, hj⟩ := HX.out (by omega)
        have BW := I.out.B
        have g0 : wr.cell? ⟨b, of + k * 3, none⟩ = some (.int .i64 (xs.getD k E0).u) := (BW.cell (p := ⟨b, _, none⟩) hb).trans (hj k hlt).1
        have g1 : wr.cell? ⟨b, of + k * 3 + 1, none⟩ = some (.int .i64 (xs.getD k E0).a) := (BW.cell (p := ⟨b, _, none⟩) hb).trans (hj k hlt).2.1
        have g2 : wr.cell? ⟨b, of + k * 3 + 2, none⟩ = some (.int .i64 (xs.getD k E0).d) := (BW.cell (p := ⟨b, _, none⟩) hb).trans (hj k hlt).2.2
        have hef := HF.out (xs.getD k E0) (by rw [entD hlt]; exact List.getElem_mem hlt)
        clear hj
        generalize hy : xs.getD k E0 = y at g0 g1 g2 hef
        obtain ⟨u, a, d⟩ := y
        have Y := Lib.hid hy
        have EF := Lib.hid hef
        clear hy hef
        have HPW : Hid (∀ W, Below wr.heap.size wr W → One W wr.heap.size (.int .i64 (k : Int)) → EB W (wr.heap.size + 1) u a d → Calls Try.prog 24 #[.func (.func 26) #[] #[.pointer (some ⟨wr.heap.size + 1, 0, none⟩), .pointer (some ⟨w.heap.size, 0, none⟩), .pointer (some ⟨wr.heap.size, 0, none⟩)]] W fun e w' => e = .returned (.int .i64 (usel ⟨u, a, d⟩ (xs.take k))) ∧ Below W.heap.size W w') := Lib.hid (by
          intro W hW hO hE
          refine permsWhere_any 26 ⟨wr.heap.size + 1, 0, none⟩ ⟨w.heap.size, 0, none⟩ ⟨wr.heap.size, 0, none⟩ eg_simp1 (nev ⟨u, a, d⟩ (xs.take k)) W ?_
          intro W' m _ hW'
          have hB : Below w.heap.size w W' := (BW.trans (hW.mono BW.size)).trans (hW'.mono (Nat.le_trans BW.size hW.size))
          have hE' := hE.below hW' hE.lt
          have hG' := (I.out.G0.below hW I.out.G0.lt).below hW' (I.out.G0.below hW I.out.G0.lt).lt
          have hO' := hO.below hW' hO.lt
          exact simp1_any u a d m _ cv k xs (wr.heap.size + 1) w.heap.size wr.heap.size W' ((H.out.below hB).more hB.size) hlt hE'.c0 hE'.c1 hE'.c2 hG'.c0 hO'.c0 hE'.lt hG'.lt hO'.lt)
        generalize hU : usel ⟨u, a, d⟩ (xs.take k) = U at HPW
        have HU := Lib.hid hU
        clear hU
        cases hkp : keepE (strip ⟨u, a, d⟩ U) with
        | true =>
          have HK := Lib.hid (simpK_yes Y.out HU.out hkp)
          have hkb : (bits .or .i64 (bits .andNot .i64 a U) (bits .andNot .i64 d U) != 0) = true := hkp
          clear hkp
          go_wp2_with fail
          refine (HPW.out _ (((Below.refl _ _).alloc (Nat.le_refl _) _).alloc (by first | omega | (simp; done) | (simp; omega)) _) ((One.new _ _ _).alloc _) ((EB.new _ _ _ _ _).at_ (by simp))).mono ?_
          rintro e w2 ⟨rfl, b2⟩
          have E2 := ((EB.new (wr.alloc (.cells #[.int .i64 (k : Int)] 3)) u a d 27).below b2 (by simp)).at_ (n' := wr.heap.size + 1) (by simp)
          have bw : Below wr.heap.size wr w2 := (((Below.refl _ _).alloc (Nat.le_refl _) _).alloc (by first | omega | (simp; done) | (simp; omega)) _).trans (b2.mono (by first | omega | (simp; done) | (simp; omega)))
          have hsw := bw.size
          have hsI := I.out.bs
          have hsB := I.out.B.size
          have bW : Below wr.heap.size wr ((w2.setCell ⟨wr.heap.size + 1, 1, none⟩ (.int .i64 (bits .andNot .i64 a U))).setCell ⟨wr.heap.size + 1, 2, none⟩ (.int .i64 (bits .andNot .i64 d U))) := (bw.setCell (by first | omega | (simp; done) | (simp; omega)) _).setCell (by first | omega | (simp; done) | (simp; omega)) _
          have hE2 := E2.lt
          clear b2
          have bWs := bW.alloc bW.size (.cells #[.int .i64 u, .int .i64 (bits .andNot .i64 a U), .int .i64 (bits .andNot .i64 d U)] 27)
          have OW := Lib.hid (own_below I.out.own bWs)
          have XW := Lib.hid (I.out.X.below bWs I.out.X.lt)
          have GW := Lib.hid (I.out.G0.below bWs I.out.G0.lt)
          have BWW := Lib.hid (I.out.B.trans (bWs.mono I.out.B.size))
          have hl := (simpK_fits (xs := xs) HF.out k hk).2
          have LT := Lib.hid I.out.own.lt
          have AO := Lib.hid (acls_one ((w2.setCell ⟨wr.heap.size + 1, 1, none⟩ (.int .i64 (bits .andNot .i64 a U))).setCell ⟨wr.heap.size + 1, 2, none⟩ (.int .i64 (bits .andNot .i64 d U))) w2.heap.size (by simp) (strip ⟨u, a, d⟩ U) (strip_fits U EF.out) 27)
          obtain ⟨_, e0, e1, e2, j1, j2⟩ := E2
          clear bW bWs bw I HPW
          go_wp2_with (at_builtin; refine wpList_append_ents rfl (.tmp 40) (.tmp 42) rfl base u5 _ (simpK xs k) rfl OW.out _ (.slice (some ⟨w2.heap.size, 0, none⟩) 1 1) [strip ⟨u, a, d⟩ U] rfl AO.out (by first | omega | (simp; done) | (simp; omega)) (by first | omega | (simp; done) | (simp; omega)) ?_; intro v3 w3 hown3 hg3)
          have hs3 := hg3.size
          simp at hs3
          have IN3 : SInv w w3 (.slice (some ⟨b, of, none⟩) xs.length cv) xs n1 base (k + 1) v3 := by
            refine ⟨BWW.out.grown hg3 (by first | omega | (simp; done) | (simp; omega)) (fun g hg => by have := (LT.out g hg).1; omega), XW.out.grown hg3 (fun e => by have := (LT.out n1 e.symm).1; omega), GW.out.grown hg3 (fun e => by have := (LT.out _ e.symm).1; omega), by omega, ?_⟩
            rw [HK.out]
            simpa using hown3
          have I3 := Lib.hid IN3
          clear IN3 hown3 hg3
          go_wp2
          go_roundg (xs.length - (k + 1))
          case measure => omega
          case rel => exact ⟨k + 1, by omega, by omega, by go_num, I3.out⟩
        | false =>
          have HK := Lib.hid (simpK_no Y.out HU.out hkp)
          have hkb : (bits .or .i64 (bits .andNot .i64 a U) (bits .andNot .i64 d U) != 0) = false := hkp
          clear hkp
          go_wp2_with fail
          refine (HPW.out _ (((Below.refl _ _).alloc (Nat.le_refl _) _).alloc (by first | omega | (simp; done) | (simp; omega)) _) ((One.new _ _ _).alloc _) ((EB.new _ _ _ _ _).at_ (by simp))).mono ?_
          rintro e w2 ⟨rfl, b2⟩
          have E2 := ((EB.new (wr.alloc (.cells #[.int .i64 (k : Int)] 3)) u a d 27).below b2 (by simp)).at_ (n' := wr.heap.size + 1) (by simp)
          have bw : Below wr.heap.size wr w2 := (((Below.refl _ _).alloc (Nat.le_refl _) _).alloc (by first | omega | (simp; done) | (simp; omega)) _).trans (b2.mono (by first | omega | (simp; done) | (simp; omega)))
          have hsw := bw.size
          have hsI := I.out.bs
          have hsB := I.out.B.size
          have bW : Below wr.heap.size wr ((w2.setCell ⟨wr.heap.size + 1, 1, none⟩ (.int .i64 (bits .andNot .i64 a U))).setCell ⟨wr.heap.size + 1, 2, none⟩ (.int .i64 (bits .andNot .i64 d U))) := (bw.setCell (by first | omega | (simp; done) | (simp; omega)) _).setCell (by first | omega | (simp; done) | (simp; omega)) _
          have hE2 := E2.lt
          clear b2
          have I3 := Lib.hid (show SInv w ((w2.setCell ⟨wr.heap.size + 1, 1, none⟩ (.int .i64 (bits .andNot .i64 a U))).setCell ⟨wr.heap.size + 1, 2, none⟩ (.int .i64 (bits .andNot .i64 d U))) (.slice (some ⟨b, of, none⟩) xs.length cv) xs n1 base (k + 1) u5 from
            ⟨I.out.B.trans (bW.mono I.out.B.size), I.out.X.below bW I.out.X.lt, I.out.G0.below bW I.out.G0.lt, (by first | omega | (simp; done) | (simp; omega)), by rw [HK.out]; exact own_below I.out.own bW⟩)
          obtain ⟨_, e0, e1, e2, j1, j2⟩ := E2
          clear bW bw I HPW
          go_wp2
          go_roundg (xs.length - (k + 1))
          case measure => omega
          case rel => exact ⟨k + 1, by omega, by omega, by go_num, I3.out⟩
      · obtain rfl : k = xs.length := by omega
        obtain ⟨l1, a0, a1, k0, k1⟩ := I.out.X
        have hw := I.out.B.size
        have hbw := I.out.bs
        go_wp2
        refine bodyPost_ret (v := .tuple #[u5, .agg #[.int .i64 0, .int .i64 0]]) (by simp [results, Try.results16, go_sem, a0, a1]) rfl ⟨u5, by rw [HV.out], ?_, (I.out.B.setCell (by first | omega | (simp; done) | (simp; omega)) _).setCell (by first | omega | (simp; done) | (simp; omega)) _⟩
        have hfi := simpK_fits (xs := xs) HF.out xs.length (Nat.le_refl _)
        have hA := acls_own I.out.own hfi.1 (by omega)
        have e : simpOf xs = simpK xs xs.length := by unfold simpOf; rw [HV.out, if_pos rfl]
        rw [e]
        have hne : ∀ g, u5.ownBlock = some g → g ≠ n1 := fun g hg he => by have := (I.out.own.lt g hg).1; omega
        have ho1 := ownsRow_setCell_other I.out.own (a := ⟨n1, 0, none⟩) (fun e => hne _ e rfl) (.int .i64 0)
        have ho2 := ownsRow_setCell_other ho1 (a := ⟨n1, 1, none⟩) (fun e => hne _ e rfl) (.int .i64 0)
        exact acls_own ho2 hfi.1 (by omega)
  · have HV := Lib.hid hv
    have HC := Lib.hid hc
    have hc1 : (c != 0) = true := by simpa using hc
    have hc2 : (c == 0) = false := by simpa using hc
    clear hv hc hx hfit
    go_enter Try.func16, Try.ntmps16
    go_wp2_with fail
    refine (C1.out _ (((Below.refl _ _).alloc (Nat.le_refl _) _).alloc (by simp) _)).mono ?_
    rintro e w1 ⟨rfl, b1⟩
    have B1 : Below w.heap.size w w1 := (((Below.refl _ _).alloc (Nat.le_refl _) _).alloc (by simp) _).trans (b1.mono (by simp; omega))
    have X1 := ((FBox.new (w.alloc (.cells #[.slice av xs.length cv] 22)) 0 0 24).below b1 (by simp)).at_ (n' := w.heap.size + 1) (by simp)
    clear b1
    have q1 : w.heap.size ≤ w.heap.size + 1 := by omega
    generalize w.heap.size + 1 = n1 at *
    obtain ⟨l1, a0, a1, k0, k1⟩ := X1
    go_wp2
    go_region
    all_goals
      go_wp2
      refine bodyPost_ret (v := .tuple #[.slice none 0 0, .agg #[.int .i64 c, .int .i64 i]]) (by simp [results, Try.results16, go_sem, a0, a1, l1]) rfl (simp_bad HV.out HC.out ?_)
      have := B1.size
      repeat (first | exact B1 | refine Below.setCell ?_ (by first | omega | (simp; done) | (simp; omega)) _ | refine Below.alloc ?_ (by first | omega | (simp; done) | (simp; omega)) _ | refine Below.drew ?_)

end Go.Proofs.Ytbmcfhojhngpkaa
