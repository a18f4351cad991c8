/- The law FstreePathsRoundTrip returns true at every tree. Conditions: the library's variable that bounds a search holds an int; the cells lie in memory as they read. -/
import Derived.Test.YtglaohaeaofnhaaGreatDoorFsTrip
import Derived.Test.YtglaohaeaofnhaaGreatDoorFsPathsOf
import Derived.BigQuiet
import Derived.Deep.CutRange
import Derived.Deep.RegionWith
import Derived.IntWalk
namespace Go.Proofs.YtglaohaeaofnhaaGreatDoor
open Go.RowKit

/-- What holds all through: the tree's box, the paths, the counts. -/
structure TI (w wr : World) (a : Option Addr) (c : Nat) (t : Tr) (B M : Nat) (v : Value) (P : List ByteArray) (f : Nat → Nat) : Prop where
  b : Below w.heap.size w wr
  tb : One wr w.heap.size (.slice a t.length c)
  xs : Strs wr B v P
  hB : B ≤ M
  row : Row wr M t.length (fun n => .int .i64 (f n : Nat))
theorem TI.step {w wr z : World} {a : Option Addr} {c : Nat} {t : Tr} {B M : Nat} {v : Value} {P : List ByteArray} {f : Nat → Nat} (h : TI w wr a c t B M v P f) (hb : Below wr.heap.size wr z) : TI w z a c t B M v P f :=
  ⟨h.b.trans (hb.mono h.b.size), h.tb.below hb h.tb.lt, h.xs.below (hb.mono (Nat.le_trans h.hB (Nat.le_of_lt h.row.lt))), h.hB, h.row.below hb h.row.lt⟩
theorem TI.put {w wr : World} {a : Option Addr} {c : Nat} {t : Tr} {B M : Nat} {v : Value} {P : List ByteArray} {f g : Nat → Nat} (h : TI w wr a c t B M v P f) (hM : w.heap.size < M) {n : Nat} (hn : n < t.length) {u : Int} (hu : u = (g n : Nat)) (hg : ∀ m, m ≠ n → g m = f m) : TI w (wr.setCell ⟨M, n, none⟩ (.int .i64 u)) a c t B M v P g :=
  ⟨h.b.setCell (by simp; omega) _, h.tb.far (by simp; omega) _, h.xs.below ((Below.refl B wr).setCell (by simpa using h.hB) _), h.hB, (h.row.put hn _).ext fun m _ => by
    by_cases e : m = n
    · subst e; rw [if_pos rfl, hu]
    · rw [if_neg e, hg m e]⟩

theorem FBox.same {z : World} {n : Nat} {c i : Int} (h : FBox z n c i) : FBox ((z.setCell ⟨n, 0, none⟩ (.int .i64 c)).setCell ⟨n, 1, none⟩ (.int .i64 i)) n c i :=
  ⟨by simpa using h.lt, (World.cell?_setCell_other _ ⟨n, 1, none⟩ ⟨n, 0, none⟩ _ (by simp)).trans (World.cell?_setCell_same _ _ _ h.c0), World.cell?_setCell_same _ _ _ ((World.cell?_setCell_other _ ⟨n, 0, none⟩ ⟨n, 1, none⟩ _ (by simp)).trans h.c1), by simpa using h.f0, by simpa using h.f1⟩

set_option maxRecDepth 100000 in
set_option maxHeartbeats 16000000 in
theorem lawTrip_any (a : Option Addr) (c : Nat) (t : Tr) (w : World) (gm : GM w) (h : Nods w w.heap.size a c t) :
    Calls Tryz.prog 3 #[.agg #[.slice a t.length c]] w fun e w' => e = .returned (.bool true) ∧ Below w.heap.size w w' := by
  have H := Lib.hid h
  have T0 := Lib.hid (One.new w (.slice a t.length c) 24)
  have B0 := Lib.hid ((Below.refl w.heap.size w).alloc (Nat.le_refl _) (.cells #[.slice a t.length c] 24))
  by_cases hq : (valT t).1 = 0
  · obtain ⟨hd, p4⟩ := valT_ok hq
    have o1 := Pass.ok1 hd (p4.mono (by omega))
    have O1 := Lib.hid o1
    have h40 := o1.le
    have hmk := make_ints t.length o1.le
    have C1 := Lib.hid (fun W (hb : Below w.heap.size w W) => (allPaths_any a c t W (h.up hb)).mono fun e w' hp => hp.good hq)
    have CL := Lib.hid (fun (p : ByteArray) W (hb : Below w.heap.size w W) (hp : p.size ≤ maxLen) => lookup_any a c t p W (gm.below hb) hp (h.up hb))
    have CP := Lib.hid (fun (n : Int) W (hb : Below w.heap.size w W) (hp : (pofF t n).1 = 0) => (pathsOf_any a c t n W (h.up hb)).mono fun e w' hh => hh.good hp)
    have HPF := Lib.hid (fun (n : Int) (hu : used t n = true) => (show (pofF t n).1 = 0 from by unfold pofF; rw [if_neg (by simpa using hq), if_pos hu]))
    have HWY := Lib.hid (fun P ha => ways_of hq (P := P) ha)
    have HRT := Lib.hid (show (nod t 0).k ≠ 0 from by rw [hd.root]; decide)
    have FRV := Lib.hid (Pass.ok2 hd (p4.mono (by omega))).fin
    unfold faultV at CL
    clear hd p4 o1 hq h gm
    go_enter Tryz.func3, Tryz.ntmps3
    go_wp2_with fail
    refine (C1.out _ B0.out).mono ?_
    rintro e W1 ⟨v, P, rfl, ha, hs, b1⟩
    have T1 := Lib.hid ((T0.out.below b1 T0.out.lt).alloc (.cells #[.int .i64 0, .int .i64 0] 27))
    have B1 := Lib.hid ((B0.out.trans (b1.mono B0.out.size)).alloc (Nat.le_trans B0.out.size b1.size) (.cells #[.int .i64 0, .int .i64 0] 27))
    have F1 := Lib.hid (FBox.new W1 0 0 27)
    have S1 := Lib.hid (show Strs (W1.alloc (.cells #[.int .i64 0, .int .i64 0] 27)) W1.heap.size v P from hs.below ((Below.refl _ _).alloc (Nat.le_refl _) _))
    have WY := Lib.hid (HWY.out P ha)
    have ASC := Lib.hid ha.1
    have hPl : P.length ≤ 35184372088832 := by obtain ⟨_, _, _, _, hl, _⟩ := hs; exact hl
    have HFT := Lib.hid (show ∀ x ∈ P, x.size ≤ maxLen from by obtain ⟨_, _, _, _, _, hf, _⟩ := hs; exact hf)
    have hPc : ∃ xa xc, v = .slice xa P.length xc ∧ P.length ≤ xc := by obtain ⟨xa, xc, hv, hc, _⟩ := hs; exact ⟨xa, xc, hv, hc⟩
    obtain ⟨xa, xc, rfl, hxc⟩ := hPc
    have hw1 : w.heap.size < W1.heap.size := Nat.lt_of_lt_of_le T0.out.lt b1.size
    clear b1 ha hs HWY C1
    go_wp2_with fail
    refine (empty_any _).mono ?_
    rintro e Y1 ⟨eb, rfl, hn1, y1⟩
    have BY1 := Lib.hid (B1.out.trans (y1.mono B1.out.size))
    have FY1 := Lib.hid (F1.out.below y1 F1.out.lt)
    have TY1 := Lib.hid (T1.out.below y1 T1.out.lt)
    have SY1 := Lib.hid (S1.out.below (y1.mono (by simp)))
    have HE := Lib.hid ((allPaths_any _ _ _ Y1 hn1).mono fun e w' hp => hp.good valT_emptyT)
    clear y1 hn1
    go_wp2_with fail
    refine HE.out.mono ?_
    rintro e Y2 ⟨ve, Pe, rfl, hae, hse, y2⟩
    obtain ⟨ea, ec, rfl⟩ := one_path hae hse
    obtain ⟨l8, a0, a1, _, _⟩ := FY1.out.below y2 FY1.out.lt
    have tc := (TY1.out.below y2 TY1.out.lt).c0
    have tl := (TY1.out.below y2 TY1.out.lt).lt
    have I0 := Lib.hid (show TI w ((Y2.alloc (.cells #[.int .i64 0, .int .i64 0] 27)).alloc (.cells (madeCells #[.int .i64 0] t.length) 3)) a c t W1.heap.size (Y2.heap.size + 1) (.slice xa P.length xc) P (fun n => met t (P.take 0) n) from
      ⟨(((BY1.out.trans (y2.mono BY1.out.size)).alloc (Nat.le_trans BY1.out.size y2.size) _).alloc (by have := BY1.out.size; have := y2.size; simp; omega) _), ((TY1.out.below y2 TY1.out.lt).alloc _).alloc _, ((SY1.out.below (y2.mono (by have := FY1.out.lt; omega))).below ((Below.refl _ _).alloc (by omega) _)).below ((Below.refl _ _).alloc (by simp; omega) _), by omega, ((row_new (Y2.alloc _) t.length (.int .i64 0) _).at_ (by simp)).ext (fun n _ => by rw [List.take_zero]; rfl)⟩)
    have hwM : w.heap.size < Y2.heap.size + 1 := by omega
    clear hae hse y2 HE
    go_wp2_with fail
    clear a0 a1 tc tl hmk
    generalize Y2.heap.size + 1 = M at *
    go_loopg [8, 9, 10, 11, 12, 13, 14] P.length (fun gg s8 _ _ _ _ _ _ wr => ∃ i : Nat, i ≤ P.length ∧ P.length - i ≤ gg ∧ s8 = .int .i64 i ∧ Aside (TI w wr a c t W1.heap.size M (.slice xa P.length xc) P (fun n => met t (P.take i) n)))
    case atStart => exact ⟨0, by omega, by omega, rfl, I0.out⟩
    case round =>
      obtain ⟨i, hi, hg, rfl, I⟩ := hrel
      clear I0
      obtain ⟨w2, rfl⟩ : ∃ w2 : World, w2 = wr := ⟨_, rfl⟩
      have tc := I.out.tb.c0
      have tl := I.out.tb.lt
      by_cases hlt : i < P.length
      · have hltz : (i : Int) < (P.length : Int) := by omega
        have hi0 : (0 : Int) ≤ (i : Int) := Int.natCast_nonneg _
        have hm9 : P.length - (i + 1) < P.length - i := Nat.sub_lt_sub_left hlt (Nat.lt_succ_self i)
        obtain ⟨xb, xo, rfl, hxb, hxj⟩ := strs_at I.out.xs (by omega)
        have hM2 := I.out.row.lt
        have hxw : xb < w2.heap.size := by have := I.out.hB; omega
        have g0 := hxj i hlt
        have hmem : P.getD i ByteArray.empty ∈ P := by rw [getD_eq hlt]; exact List.getElem_mem hlt
        have hysz := HFT.out _ hmem
        obtain ⟨xs, n, hr, hy, hlk⟩ := WY.out.rch _ hmem
        obtain ⟨hnt, hnk, _⟩ := O1.out.rch hr O1.out.ne HRT.out
        have HDS := Lib.hid (show dst t (P.getD i ByteArray.empty) = n from by unfold dst; rw [hlk])
        have HMS := Lib.hid (fun m => met_snoc (t := t) hlt m)
        have hpv := Lib.hid (show 0 < i → ltS (P.getD (i - 1) ByteArray.empty) (P.getD i ByteArray.empty) = true ∧ w2.cell? ⟨xb, xo + (i - 1), none⟩ = some (.string (P.getD (i - 1) ByteArray.empty)) from fun h0 => ⟨by
          rw [getD_eq hlt, getD_eq (show i - 1 < P.length by omega)]
          exact List.pairwise_iff_getElem.1 ASC.out (i - 1) i (by omega) hlt (by omega), hxj (i - 1) (by omega)⟩)
        have HL := Lib.hid (fun W hb => CL.out (P.getD i ByteArray.empty) W hb hysz)
        rw [hlk] at HL
        have HP := Lib.hid (fun W hb => CP.out (n : Int) W hb (HPF.out (n : Int) (by unfold used; rw [decide_eq_true_iff]; exact ⟨Int.natCast_nonneg _, by omega, by simpa using hnk⟩)))
        have HV := Lib.hid (show P.getD i ByteArray.empty ∈ pathsW (fun m => (m : Int) == (n : Int)) (visits t 0) from by
          unfold pathsW
          rw [hy]
          exact List.mem_map.2 ⟨(xs, n), List.mem_filter.2 ⟨(mem_visits FRV.out).2 hr, by simp⟩, rfl⟩)
        have hcnt := met_le t P i n
        have nlz : (n : Int) < (t.length : Int) := by omega
        have nlz2 : decide ((t.length : Int) ≤ (n : Int)) = false := by rw [decide_eq_false_iff_not]; omega
        have nz : (0 : Int) ≤ (n : Int) := Int.natCast_nonneg _
        have nz2 : decide ((n : Int) < 0) = false := by rw [decide_eq_false_iff_not]; omega
        clear hmem hysz hr hy hlk hnk hxj
        have YW := Lib.hid (show ∃ y, P.getD i ByteArray.empty = y from ⟨_, rfl⟩)
        generalize hyy : P.getD i ByteArray.empty = y at *
        clear YW
        go_upto_region 11 with fail
        go_cut [9, 10] from 44 to 126 (fun s9 s10 wx => ∃ A : Nat, s9 = .int .i64 (n : Nat) ∧ s10 = .pointer (some ⟨A, 0, none⟩) ∧ w2.heap.size ≤ A ∧ FBox wx A 0 0 ∧ Below w2.heap.size w2 wx)
        case first =>
          have HB1 := Lib.hid (I.out.b.trans ((Below.refl w2.heap.size w2).drew.mono I.out.b.size))
          have HB2 := Lib.hid ((Below.refl w2.heap.size w2).alloc (Nat.le_refl _) (.cells #[.int .i64 0, .int .i64 0] 27)).drew
          have HF2 := Lib.hid ((FBox.new w2 0 0 27).below (Below.refl _ _).drew (FBox.new w2 0 0 27).lt)
          go_region_with (go_at_call 6; (first
            | (refine (HL.out _ HB1.out).mono ?_; rintro e z ⟨rfl, hb9⟩)
            | (refine (HL.out _ (I.out.b.trans (HB2.out.mono I.out.b.size))).mono ?_; rintro e z ⟨rfl, hb9⟩; obtain ⟨lz, z0, z1, zf0, zf1⟩ := HF2.out.below hb9 HF2.out.lt)))
          all_goals
            go_wp2_with fail
            go_meet
            first
              | exact ⟨z.heap.size, rfl, rfl, hb9.size, FBox.new z 0 0 27, ((Below.refl w2.heap.size w2).drew.trans hb9).alloc hb9.size _⟩
              | exact ⟨w2.heap.size, rfl, rfl, Nat.le_refl _, FBox.same ⟨lz, z0, z1, zf0, zf1⟩, (HB2.out.trans (hb9.mono HB2.out.size)).setCell (Nat.le_refl _) _ |>.setCell (Nat.le_refl _) _⟩
        case rest =>
          obtain ⟨A, rfl, rfl, hA, FA, bx⟩ := hcut
          obtain ⟨w3, rfl⟩ : ∃ w3 : World, w3 = wc := ⟨_, rfl⟩
          have I3 := Lib.hid (I.out.step bx)
          have g3 := (bx.cell (p := ⟨xb, xo + i, none⟩) hxw).trans g0
          have FA3 := Lib.hid FA
          have hxw3 : xb < w3.heap.size := Nat.lt_of_lt_of_le hxw bx.size
          obtain ⟨lA, A0, _, _, _⟩ := FA
          go_upto_region 12 with fail
          go_cut [87] from 44 to 126 (fun s87 wx => s87 = .bool false ∧ Below w3.heap.size w3 wx)
          case first =>
            by_cases h0 : i = 0
            · have d0 : decide ((0 : Int) < (i : Int)) = false := by rw [decide_eq_false_iff_not]; omega
              clear h0 hm9 hi0 hltz hg hi hcnt h40 I I3 FA3 hpv HL HP HV HMS HDS CL CP HPF HRT FRV WY ASC HFT SY1 TY1 FY1 BY1 S1 F1 B1 T1 T0 B0 O1 H
              generalize (i : Int) = iz at *
              generalize (n : Int) = nn at *
              go_quiet (fail)
              all_goals
                go_wp2_with fail
                go_meet
                exact ⟨rfl, below_drewN (Below.refl _ _) _⟩
            · have d0 : decide ((0 : Int) < (i : Int)) = true := by rw [decide_eq_true_iff]; omega
              have d2 : (0 : Int) < (i : Int) := by omega
              obtain ⟨q1, q2⟩ := hpv.out (by omega)
              have q3 := (bx.cell (p := ⟨xb, xo + (i - 1), none⟩) hxw).trans q2
              have q4 : Op.bytesLess (P.getD (i - 1) ByteArray.empty).toList y.toList = true := q1
              have q5 : (0 : Int) ≤ (i : Int) - 1 := by omega
              have q6 : (i : Int) - 1 < (P.length : Int) := by omega
              have q7 : ((i : Int) - 1).toNat = i - 1 := by omega
              have q9 : (i : Int).toNat = i := by omega
              have q8 : IntKind.i64.wrap ((i : Int) - 1) = (i : Int) - 1 := IntWalk.i64_in _ (by omega)
              clear q1 q2
              clear h0 hm9 hg hi hcnt h40 I I3 FA3 hpv HL HP HV HMS HDS CL CP HPF HRT FRV WY ASC HFT SY1 TY1 FY1 BY1 S1 F1 B1 T1 T0 B0 O1 H
              generalize P.getD (i - 1) ByteArray.empty = yp at *
              generalize (i : Int) = iz at *
              generalize (n : Int) = nn at *
              go_quiet (fail)
              all_goals
                go_wp2_with fail
                go_meet
                exact ⟨rfl, below_drewN (Below.refl _ _) _⟩
          case rest =>
            obtain ⟨rfl, bd⟩ := hcut
            obtain ⟨w4, rfl⟩ : ∃ w4 : World, w4 = wc := ⟨_, rfl⟩
            have I4 := Lib.hid (I3.out.step bd)
            have FA4 := Lib.hid (FA3.out.below bd lA)
            have rc := I4.out.row.c n hnt
            have rf := I4.out.row.fz n
            have rl := I4.out.row.lt
            have tc4 := I4.out.tb.c0
            have tl4 := I4.out.tb.lt
            have hMne : ¬ (M = w.heap.size) := by omega
            have hMne2 : ¬ (w.heap.size = M) := by omega
            clear A0 tc tl bx
            go_upto_region 15 with fail
            have I5 := Lib.hid (I4.out.put (g := fun m => met t (P.take (i + 1)) m) hwM hnt (u := ((met t (P.take i) n : Nat) : Int) + 1) (by simp only [HMS.out n, HDS.out, if_pos]; omega) (fun m hm => by simp only [HMS.out m, HDS.out]; rw [if_neg (fun e => hm e.symm)]; rfl))
            have g4 := (bd.cell (p := ⟨xb, xo + i, none⟩) hxw3).trans g3
            have g5 := (World.cell?_setCell_other w4 ⟨M, n, none⟩ ⟨xb, xo + i, none⟩ (.int .i64 (((met t (P.take i) n : Nat) : Int) + 1)) (by have := I.out.hB; first | (simp; done) | (simp; omega))).trans g4
            have hxw5 : xb < (w4.setCell ⟨M, n, none⟩ (.int .i64 (((met t (P.take i) n : Nat) : Int) + 1))).heap.size := by have := bd.size; simp; omega
            clear g3 g4 rc rf rl tc4 tl4 bd
            generalize w4.setCell ⟨M, n, none⟩ (.int .i64 (((met t (P.take i) n : Nat) : Int) + 1)) = w5 at *
            have tc5 := I5.out.tb.c0
            have tl5 := I5.out.tb.lt
            go_wp2_with fail
            refine (HP.out _ I5.out.b).mono ?_
            rintro e W6 ⟨v6, Q, rfl, ha6, hs6, b6⟩
            have hyQ : y ∈ Q := (ha6.2 y).2 HV.out
            have hQl : Q.length ≤ 35184372088832 := by obtain ⟨_, _, _, _, hl, _⟩ := hs6; exact hl
            obtain ⟨qa, qc, rfl, hqc⟩ : ∃ qa qc, v6 = .slice qa Q.length qc ∧ Q.length ≤ qc := by obtain ⟨qa, qc, hv, hc, _⟩ := hs6; exact ⟨qa, qc, hv, hc⟩
            obtain ⟨qb, qo, rfl, hqb, hqj⟩ := strs_at hs6 (List.length_pos_of_mem hyQ)
            have I7 := Lib.hid ((I5.out.step b6).step ((Below.refl W6.heap.size W6).alloc (Nat.le_refl _) (.cells #[.int .i64 0, .int .i64 0] 27)))
            have F7 := Lib.hid (FBox.new W6 0 0 27)
            have g7 := Lib.hid (show (W6.alloc (.cells #[.int .i64 0, .int .i64 0] 27)).cell? ⟨xb, xo + i, none⟩ = some (.string y) from (((Below.refl W6.heap.size W6).alloc (Nat.le_refl _) _).cell (p := ⟨xb, xo + i, none⟩) (Nat.lt_of_lt_of_le hxw5 b6.size)).trans ((b6.cell (p := ⟨xb, xo + i, none⟩) hxw5).trans g5))
            have hq7 := Lib.hid (fun j hj => (((Below.refl W6.heap.size W6).alloc (Nat.le_refl _) (.cells #[.int .i64 0, .int .i64 0] 27)).cell (p := ⟨qb, qo + j, none⟩) hqb).trans (hqj j hj))
            have hxw7 : xb < (W6.alloc (.cells #[.int .i64 0, .int .i64 0] 27)).heap.size := Nat.lt_of_lt_of_le hxw5 (by have := b6.size; simp; omega)
            have hqw7 : qb < (W6.alloc (.cells #[.int .i64 0, .int .i64 0] 27)).heap.size := by simp; omega
            clear b6 ha6 hs6 hqj g5 tc5 tl5
            go_wp2_with fail
            have hlF : W6.heap.size < (W6.alloc (.cells #[.int .i64 0, .int .i64 0] 27)).heap.size := F7.out.lt
            generalize W6.heap.size = F at *
            generalize W6.alloc (.cells #[.int .i64 0, .int .i64 0] 27) = W7 at *
            have J0 := Lib.hid (Below.refl W7.heap.size W7)
            go_loopg [13, 14] Q.length (fun gg s13 s14 wr => ∃ k : Nat, k ≤ Q.length ∧ Q.length - k ≤ gg ∧ s14 = .int .i64 k ∧ s13 = .bool ((Q.take k).any (fun z => decide (z = y))) ∧ Aside (Below W7.heap.size W7 wr))
            case atStart => exact ⟨0, by omega, by omega, rfl, rfl, J0.out⟩
            case round =>
              obtain ⟨k, hk, hgk, rfl, rfl, J⟩ := hrel
              by_cases hk2 : k < Q.length
              · have hkz : (k : Int) < (Q.length : Int) := by omega
                have hk0 : (0 : Int) ≤ (k : Int) := Int.natCast_nonneg _
                have hm8 : Q.length - (k + 1) < Q.length - k := Nat.sub_lt_sub_left hk2 (Nat.lt_succ_self k)
                have HA := Lib.hid (any_snoc hk2 y)
                have r1 := (J.out.cell (p := ⟨qb, qo + k, none⟩) hqw7).trans (hq7.out k hk2)
                have r2 := (J.out.cell (p := ⟨xb, xo + i, none⟩) hxw7).trans g7.out
                generalize Q.getD k ByteArray.empty = z at *
                cases hb : (Q.take k).any (fun z => decide (z = y)) with
                | true =>
                  go_wp2_with fail
                  go_quiet (fail)
                  go_wp2_with fail
                  go_roundg (Q.length - (k + 1))
                  case measure => exact Nat.lt_of_lt_of_le hm8 hgk
                  case rel => exact ⟨k + 1, hk2, Nat.le_refl _, by go_num, by rw [HA.out, hb]; rfl, below_drewN J.out _⟩
                | false =>
                  by_cases he : z = y
                  · subst he
                    go_wp2_with fail
                    go_quiet (fail)
                    go_wp2_with fail
                    go_roundg (Q.length - (k + 1))
                    case measure => exact Nat.lt_of_lt_of_le hm8 hgk
                    case rel => exact ⟨k + 1, hk2, Nat.le_refl _, by go_num, by rw [HA.out, hb]; simp, below_drewN J.out _⟩
                  · have he2 : decide (z = y) = false := by simpa using he
                    have he3 : (z.toList == y.toList) = false := by rw [beq_eq_false_iff_ne]; exact fun e => he (toList_inj.1 e)
                    go_wp2_with fail
                    go_quiet (fail)
                    go_wp2_with fail
                    go_roundg (Q.length - (k + 1))
                    case measure => exact Nat.lt_of_lt_of_le hm8 hgk
                    case rel => exact ⟨k + 1, hk2, Nat.le_refl _, by go_num, by rw [HA.out, hb, he2]; rfl, below_drewN J.out _⟩
              · have hke : k = Q.length := by omega
                subst hke
                have hb : (Q.take Q.length).any (fun z => decide (z = y)) = true := by
                  rw [List.take_length, List.any_eq_true]
                  exact ⟨y, hyQ, by simp⟩
                rw [hb]
                obtain ⟨lF, F0, _, _, _⟩ := F7.out.below J.out hlF
                have I8 := Lib.hid (I7.out.step J.out)
                go_wp2_with fail
                go_roundg (P.length - (i + 1))
                case measure => exact Nat.lt_of_lt_of_le hm9 hg
                case rel => exact ⟨i + 1, hlt, Nat.le_refl _, by go_num, I8.out⟩
      · obtain rfl : i = P.length := by omega
        have HR := Lib.hid (show Row w2 M t.length (fun m => .int .i64 (met t P m : Nat)) from I.out.row.ext (fun m _ => by rw [List.take_length]))
        have hMl := I.out.row.lt
        have IB := Lib.hid I.out.b
        have L0 := Lib.hid (Below.refl w2.heap.size w2)
        go_wp2_with fail
        go_loopg [15] t.length (fun gg s15 wz => ∃ m : Nat, m ≤ t.length ∧ t.length - m ≤ gg ∧ s15 = .int .i64 m ∧ Aside (Below w2.heap.size w2 wz))
        case atStart => exact ⟨0, by omega, by omega, rfl, L0.out⟩
        case round =>
          obtain ⟨m, hm, hgm, rfl, L⟩ := hrel
          by_cases hml : m < t.length
          · have hmz : (m : Int) < (t.length : Int) := by omega
            have hm0 : (0 : Int) ≤ (m : Int) := Int.natCast_nonneg _
            have hm7 : t.length - (m + 1) < t.length - m := Nat.sub_lt_sub_left hml (Nat.lt_succ_self m)
            obtain ⟨b, o, ve, vd, va, vx, rfl, hb, hc, _⟩ := H.out.one hml
            have hc0 := hc.c0
            have kc := ((IB.out.trans (L.out.mono IB.out.size)).cell (p := ⟨b, o + m * 8, none⟩) hb).trans hc0
            have tc6 := (L.out.cell (p := ⟨w.heap.size, 0, none⟩) tl).trans tc
            have rc := (L.out.cell (p := ⟨M, m, none⟩) hMl).trans (HR.out.c m hml)
            clear hc hc0 tc
            by_cases k0 : (nod t m).k = 0
            · rw [k0] at kc
              rw [WY.out.free m k0] at rc
              go_wp2_with fail
              go_roundg (t.length - (m + 1))
              case measure => exact Nat.lt_of_lt_of_le hm7 hgm
              case rel => exact ⟨m + 1, hml, Nat.le_refl _, by go_num, L.out⟩
            · have k01 : ((nod t m).k == 0) = false := by rw [beq_eq_false_iff_ne]; exact k0
              by_cases k1 : (nod t m).k = 1
              · rw [k1] at kc
                rw [WY.out.dir m hml k1] at rc
                go_wp2_with fail
                go_roundg (t.length - (m + 1))
                case measure => exact Nat.lt_of_lt_of_le hm7 hgm
                case rel => exact ⟨m + 1, hml, Nat.le_refl _, by go_num, L.out⟩
              · have k11 : ((nod t m).k == 1) = false := by rw [beq_eq_false_iff_ne]; exact k1
                by_cases k2 : (nod t m).k = 2
                · have r2 := WY.out.file m hml k2
                  have r21 : (((met t P m : Nat) : Int) == 0) = false := by rw [beq_eq_false_iff_ne]; omega
                  rw [k2] at kc
                  go_wp2_with fail
                  go_roundg (t.length - (m + 1))
                  case measure => exact Nat.lt_of_lt_of_le hm7 hgm
                  case rel => exact ⟨m + 1, hml, Nat.le_refl _, by go_num, L.out⟩
                · have k21 : ((nod t m).k == 2) = false := by rw [beq_eq_false_iff_ne]; exact k2
                  go_wp2_with fail
                  go_roundg (t.length - (m + 1))
                  case measure => exact Nat.lt_of_lt_of_le hm7 hgm
                  case rel => exact ⟨m + 1, hml, Nat.le_refl _, by go_num, L.out⟩
          · obtain rfl : m = t.length := by omega
            go_wp2
            go_ret
            exact ⟨rfl, IB.out.trans (L.out.mono IB.out.size)⟩
  · have C1 := Lib.hid (fun W (hb : Below w.heap.size w W) => (allPaths_any a c t W (h.up hb)).mono fun e w' hp => hp.bad hq)
    have hq1 : ((valT t).1 != 0) = true := by simpa using hq
    have hq2 : ((valT t).1 == 0) = false := by simpa using hq
    clear hq h gm
    generalize (valT t).1 = q at *
    generalize (valT t).2 = r at *
    go_enter Tryz.func3, Tryz.ntmps3
    go_wp2_with fail
    refine (C1.out _ B0.out).mono ?_
    rintro e W1 ⟨rfl, b1⟩
    have B1 := Lib.hid ((B0.out.trans (b1.mono B0.out.size)).alloc (Nat.le_trans B0.out.size b1.size) (.cells #[.int .i64 q, .int .i64 r] 27))
    have F1 := Lib.hid (FBox.new W1 q r 27)
    clear b1
    go_wp2_with fail
    refine (empty_any _).mono ?_
    rintro e Y1 ⟨eb, rfl, hn1, y1⟩
    have BY1 := Lib.hid (B1.out.trans (y1.mono B1.out.size))
    have FY1 := Lib.hid (F1.out.below y1 F1.out.lt)
    have HE := Lib.hid ((allPaths_any _ _ _ Y1 hn1).mono fun e w' hp => hp.good valT_emptyT)
    clear y1 hn1
    go_wp2_with fail
    refine HE.out.mono ?_
    rintro e Y2 ⟨ve, Pe, rfl, hae, hse, y2⟩
    obtain ⟨ea, ec, rfl⟩ := one_path hae hse
    have BY2 := Lib.hid ((BY1.out.trans (y2.mono BY1.out.size)).alloc (Nat.le_trans BY1.out.size y2.size) (.cells #[.int .i64 0, .int .i64 0] 27))
    obtain ⟨l8, a0, a1, _, _⟩ := FY1.out.below y2 FY1.out.lt
    clear hae hse y2 HE
    go_wp2
    go_ret
    exact ⟨rfl, BY2.out⟩

end Go.Proofs.YtglaohaeaofnhaaGreatDoor
