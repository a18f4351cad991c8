/- What a law of package memfs or of its neighbours needs, at the translation of this seat.
   Condition: as each theorem states; this text: QrLaw. -/
import Derived.Test.YtmbbmmnpkdfecaaGreatDoorMqL
import Derived.Deep.RegionHeld3
import Derived.Test.YtmbbmmnpkdfecaaGreatDoorMfF

set_option linter.all false

/- The law QuotaRemainingIsExact returns true at every tree, path and number of bytes. Conditions: the tree and the path lie in memory as they read; the door's variable lies in memory. -/

set_option linter.all false
namespace Go.Proofs.YtmbbmmnpkdfecaaGreatDoor
open Go.RowKit

set_option maxRecDepth 100000 in
set_option maxHeartbeats 25600000 in
theorem lawExact_any (a : Option Addr) (c : Nat) (t : FT) (p : ByteArray) (more : Int) (w : World) (gm : GM w) (h : FNods w w.heap.size a c t) (hp : p.size ≤ maxLen) (hm0 : 0 ≤ more) (hm1 : more ≤ 255) :
    Calls Tryz.prog 11 #[.agg #[.slice a t.length c], .string p, .int .u8 more] w fun e w' => e = .returned (.bool true) ∧ Below w.heap.size w w' := by
  have hN := h.nods_
  have C1 := Lib.hid (fun W (hb : Below w.heap.size w W) => lookup_any a c (tr t) p W (gm.below hb) hp (hN.up hb))
  have C2 := Lib.hid (fun n W (hb : Below w.heap.size w W) => remaining_any a c (tr t) n W (hN.up hb))
  rw [tr_len] at C1 C2
  unfold faultV at C1
  unfold RemPost faultV at C2
  have T0 := Lib.hid (One.new w (.slice a t.length c) 24)
  have B0 := Lib.hid ((Below.refl w.heap.size w).alloc (Nat.le_refl _) (.cells #[.slice a t.length c] 24))
  have HE := Lib.hid (lookF_err (t := tr t) (p := p))
  have HV := Lib.hid (lookF_lt (t := tr t) (p := p))
  have HIn := Lib.hid (lookF_in (t := tr t) (p := p))
  rw [tr_len] at HIn
  have HN := Lib.hid hN
  have HF := Lib.hid h
  have GMw := Lib.hid gm
  have HW := Lib.hid (fun (k : Nat) (hk : 0 < k) (hk2 : k ≤ 200) (hv : (valT (tr t)).1 = 0) (hl : (lookF (tr t) p).2.1 = 0) (hkd : (nod (tr t) (lookF (tr t) p).1).k = 2) => write_reply hv (k := k) rfl hl hkd hk hk2)
  clear gm h hN
  generalize (lookF (tr t) p).1 = n at *
  generalize (lookF (tr t) p).2.1 = fc at *
  generalize (lookF (tr t) p).2.2 = fi at *
  go_enter Tryz.func11, Tryz.ntmps11
  go_wp2_with fail
  refine (C1.out _ B0.out).mono ?_
  rintro e W1 ⟨rfl, b1⟩
  have T1 := Lib.hid ((T0.out.below b1 T0.out.lt).alloc (.cells #[.int .i64 fc, .int .i64 fi] 37))
  have F1 := Lib.hid (FBox.new W1 fc fi 37)
  have B1 := Lib.hid ((B0.out.trans (b1.mono B0.out.size)).alloc (Nat.le_trans B0.out.size b1.size) (.cells #[.int .i64 fc, .int .i64 fi] 37))
  have tc := (T0.out.below b1 T0.out.lt).c0
  have tl := (T0.out.below b1 T0.out.lt).lt
  clear b1
  go_wp2_with fail
  refine (sample_any _).mono ?_
  rintro e W3 ⟨sb, rfl, hn3, b3⟩
  have T3 := Lib.hid (T1.out.below b3 T1.out.lt)
  have F3 := Lib.hid (F1.out.below b3 F1.out.lt)
  have B3 := Lib.hid (B1.out.trans (b3.mono B1.out.size))
  have HS := Lib.hid (remM_any sb W3 hn3)
  clear b3 hn3 tc tl T0 T1 F1 B0 B1
  go_wp2_with fail
  refine HS.out.mono ?_
  rintro e W4 ⟨rfl, b4⟩
  have T4 := Lib.hid ((T3.out.below b4 T3.out.lt).alloc (.cells #[.int .i64 0, .int .i64 0] 37))
  have F4 := Lib.hid ((F3.out.below b4 F3.out.lt).alloc (.cells #[.int .i64 0, .int .i64 0] 37))
  have B4 := Lib.hid ((B3.out.trans (b4.mono B3.out.size)).alloc (Nat.le_trans B3.out.size b4.size) (.cells #[.int .i64 0, .int .i64 0] 37))
  have T4b := Lib.hid (T3.out.below b4 T3.out.lt)
  have F4b := Lib.hid (F3.out.below b4 F3.out.lt)
  have B4b := Lib.hid (B3.out.trans (b4.mono B3.out.size))
  clear b4 HS T3 F3 B3
  obtain ⟨l8, t0, t1⟩ := T4b.out
  obtain ⟨fl, f0, f1, fz0, fz1⟩ := F4b.out
  have l9 : w.heap.size < W4.heap.size + 1 := by omega
  have fl9 : W1.heap.size < W4.heap.size + 1 := by omega
  have g0 := F4.out.c0
  have u0 := T4.out.c0
  by_cases hf : fc = 0
  · subst hf
    have hv := HV.out rfl
    have hnl := HIn.out rfl
    have hnlz : (n : Int) < (t.length : Int) := by omega
    have hnz : (0 : Int) ≤ (n : Int) := Int.natCast_nonneg _
    obtain ⟨b, o, ha, hb, hj⟩ := (HF.out).at_ (by omega)
    subst ha
    obtain ⟨⟨se, sd, sa, sx⟩, hc, hs, hby⟩ := hj n hnl
    simp only at hc hs hby
    obtain ⟨da, dc, rfl, hdc⟩ := id hs.dl
    have i0 := (B4.out.cell (p := ⟨b, o + n * 8, none⟩) hb).trans hc.c0
    have i3 := hc.c3
    have hbl : b < W4.heap.size + 1 := by have := Nat.lt_of_lt_of_le hb B4.out.size; simpa using this
    have i0b := (B4b.out.cell (p := ⟨b, o + n * 8, none⟩) hb).trans hc.c0
    have hbl4 : b < W4.heap.size := Nat.lt_of_lt_of_le hb B4b.out.size
    rw [← nod_tr] at i0 i3 i0b
    have hdl : (nod (tr t) n).dl = (ino t n).d.length := by rw [nod_tr]; rfl
    clear hc hs hby hj hdc
    by_cases hk : (nod (tr t) n).k = 2
    · rw [hk] at i0 i0b
      have hff : fileF (tr t) (n : Int) 0 = (0, 0) := by
        unfold fileF
        rw [if_neg (by rw [hv]; simp), if_neg (by rw [tr_len]; omega), Int.toNat_natCast, if_neg (by rw [hk]; simp)]
      have C3 := Lib.hid (fun W (hb : Below w.heap.size w W) => (C2.out (n : Int) W hb).mono fun e w' hh => (show e = .returned (.tuple #[.int .i64 (remF (tr t) n t.length), .agg #[.int .i64 0, .int .i64 0]]) ∧ Below W.heap.size W w' from by
        rcases hh with ⟨h1, _⟩ | ⟨_, h2, h3⟩
        · rw [hff] at h1; exact absurd rfl h1
        · rw [Int.toNat_natCast, tr_len] at h2; exact ⟨h2, h3⟩))
      have HWk := Lib.hid (fun k hk1 hk2 => HW.out k hk1 hk2 hv rfl hk)
      clear C2 HW hff
      go_wp2_with fail
      refine (C3.out _ B4.out).mono ?_
      rintro e W5 ⟨rfl, b5⟩
      have T5 := Lib.hid ((T4.out.below b5 T4.out.lt).alloc (.cells #[.int .i64 0, .int .i64 0] 37))
      have B5 := Lib.hid ((B4.out.trans (b5.mono B4.out.size)).alloc (Nat.le_trans B4.out.size b5.size) (.cells #[.int .i64 0, .int .i64 0] 37))
      have F5 := Lib.hid (FBox.new W5 0 0 37)
      have T5b := Lib.hid (T4.out.below b5 T4.out.lt)
      clear b5 C3 T4 F4 T4b F4b B4 B4b l8 t0 t1 fl f0 f1 fz0 fz1 l9 fl9 g0 u0 i0 i0b hbl hbl4
      have t0 := T5b.out.c0
      have tl := T5b.out.lt
      have t6 := T5.out.c0
      have tl6 := T5.out.lt
      have i6 := (B5.out.cell (p := ⟨b, o + n * 8 + 3, none⟩) hb).trans i3
      have hb6 := Nat.lt_of_lt_of_le hb B5.out.size
      have FN6 := Lib.hid (HF.out.up B5.out)
      have GM6 := Lib.hid (GMw.out.below B5.out)
      rw [hdl] at i6
      clear t0 tl i3
      obtain ⟨k, hkk⟩ : ∃ k : Nat, 1 + more % 200 = (k : Int) := ⟨(1 + more % 200).toNat, by omega⟩
      have hk0 : 0 < k := by omega
      have hk200 : k ≤ 200 := by omega
      have hkz : (0 : Int) ≤ (k : Int) := Int.natCast_nonneg _
      have hkm : (k : Int) ≤ 200 := by omega
      have hmk := make_bytes k (by omega)
      have HR := Lib.hid (HWk.out k hk0 hk200)
      have CA := Lib.hid (fun W (hbW : Below (W5.alloc (.cells #[.int .i64 0, .int .i64 0] 37)).heap.size (W5.alloc (.cells #[.int .i64 0, .int .i64 0] 37)) W) vd (hvd : Byts W W.heap.size vd (zerosB k)) => applyOk_any (some ⟨b, o, none⟩) c t (wrq p (ino t n).d.length k) vd (.slice none 0 0) W (GM6.out.below hbW) (FN6.out.up hbW) ⟨hvd, Acls.none_ _ _, by show i64 (4 : Int); unfold i64; omega, by show i64 (0 : Int); unfold i64; omega, by show i64 ((ino t n).d.length : Int); unfold i64; have h9 := ((vd_of hv).toSv.ok1.fine n).dl; rw [hdl] at h9; omega, by show i64 (0 : Int); unfold i64; omega, hp, by show ByteArray.empty.size ≤ maxLen; simp, A0_fits⟩ hv HR.out.1)
      rw [tr_len] at HR
      generalize applyF t (wrq p (ino t n).d.length k) = AF at *
      obtain ⟨tn, pp⟩ := AF
      unfold rpV rqV at CA
      simp only [wrq] at CA HR
      clear HWk HN HF FN6 GM6 GMw T5 T5b hdl hv HV HIn C1 HE
      go_upto_region 9 with fail
      try rw [hkk]
      generalize (ino t n).d.length = dl at *
      generalize remF (tr t) n t.length = rm at *
      generalize W5.alloc (.cells #[.int .i64 0, .int .i64 0] 37) = w6 at *
      generalize W5.heap.size = n5 at *
      go_cut [14, 15, 16] from 64 to 80 (fun s14 s15 s16 wx => ∃ b14 b15 b16 : Nat, s14 = .pointer (some ⟨b14, 0, none⟩) ∧ s15 = .pointer (some ⟨b15, 0, none⟩) ∧ s16 = .pointer (some ⟨b16, 0, none⟩) ∧ Below w6.heap.size w6 wx ∧ wx.cell? ⟨b15, 0, none⟩ = some (.int .i64 pp.c) ∧ wx.cell? ⟨b16, 0, none⟩ = some (.int .i64 0))
      case first =>
        have K := Lib.hid (fun y (hy : Below w6.heap.size w6 y) => (show Below w6.heap.size w6 y ∧ y.cell? ⟨w.heap.size, 0, none⟩ = some (.slice (some ⟨b, o, none⟩) t.length c) ∧ y.cell? ⟨b, o + n * 8 + 3, none⟩ = some (.slice da dl dc) from ⟨hy, (hy.cell (p := ⟨w.heap.size, 0, none⟩) tl6).trans t6, (hy.cell (p := ⟨b, o + n * 8 + 3, none⟩) hb6).trans i6⟩))
        have z0 : Below w6.heap.size w6 w6.drew := (Below.refl _ _).drew
        have HSM := Lib.hid (show ∀ y z : World, (fun y => Below w6.heap.size w6 y ∧ y.cell? ⟨w.heap.size, 0, none⟩ = some (.slice (some ⟨b, o, none⟩) t.length c) ∧ y.cell? ⟨b, o + n * 8 + 3, none⟩ = some (.slice da dl dc)) y → Gr y z → (fun y => Below w6.heap.size w6 y ∧ y.cell? ⟨w.heap.size, 0, none⟩ = some (.slice (some ⟨b, o, none⟩) t.length c) ∧ y.cell? ⟨b, o + n * 8 + 3, none⟩ = some (.slice da dl dc)) z from fun y z h g => K.out z (h.1.trans (g.mono h.1.size)))
        refine wp_region_held_drew (S := (fun y => Below w6.heap.size w6 y ∧ y.cell? ⟨w.heap.size, 0, none⟩ = some (.slice (some ⟨b, o, none⟩) t.length c) ∧ y.cell? ⟨b, o + n * 8 + 3, none⟩ = some (.slice da dl dc))) (by kernel_rfl) (K.out _ z0) (fun hHeld => ?_)
        refine wpAnyH_take (i := 0) (oi := { dst := some 65, op := Op.load 24 (Operand.tmp 3), type := 24, pos := "tree.go:307", after := #[], guard := none }) (v := ?vp0) rfl (by kernel_rfl) (by kernel_rfl) (by kernel_rfl) (fun _ _ _ h => h) (Or.inl ⟨by rfl, ?yp0⟩) (by assumption) ?rp0
        case yp0 =>
          intro wz hSw
          try dsimp only at hSw
          go_simp
          try with_reducible rfl
        try simp only [Act.put, List.setIfInBounds_toArray, List.set_cons_zero, List.set_cons_succ]
        refine wpAnyH_take (i := 1) (oi := { dst := some 66, op := Op.move (Operand.tmp 1), type := 9, pos := "tree.go:307", after := #[], guard := none }) (v := ?vp1) rfl (by kernel_rfl) (by kernel_rfl) (by kernel_rfl) (fun _ _ _ h => h) (Or.inl ⟨by rfl, ?yp1⟩) (by assumption) ?rp1
        case yp1 =>
          intro wz hSw
          try dsimp only at hSw
          go_simp
          try with_reducible rfl
        try simp only [Act.put, List.setIfInBounds_toArray, List.set_cons_zero, List.set_cons_succ]
        refine wpAnyH_take (i := 2) (oi := { dst := some 67, op := Op.fieldAddr 24 (Operand.tmp 3) 0, type := 0, pos := "tree.go:307", after := #[], guard := none }) (v := ?vp2) rfl (by kernel_rfl) (by kernel_rfl) (by kernel_rfl) (fun _ _ _ h => h) (Or.inl ⟨by rfl, ?yp2⟩) (by assumption) ?rp2
        case yp2 =>
          intro wz hSw
          try dsimp only at hSw
          go_simp
          try with_reducible rfl
        try simp only [Act.put, List.setIfInBounds_toArray, List.set_cons_zero, List.set_cons_succ]
        refine wpAnyH_take (i := 3) (oi := { dst := some 68, op := Op.load 22 (Operand.tmp 67), type := 22, pos := "tree.go:307", after := #[{ on := 2, ground := Ground.data }], guard := none }) (v := ?vp3) rfl (by kernel_rfl) (by kernel_rfl) (by kernel_rfl) (fun _ _ _ h => h) (Or.inl ⟨by rfl, ?yp3⟩) (by assumption) ?rp3
        case yp3 =>
          intro wz hSw
          try dsimp only at hSw
          go_simp
          try with_reducible rfl
        try simp only [Act.put, List.setIfInBounds_toArray, List.set_cons_zero, List.set_cons_succ]
        refine wpAnyH_take (i := 4) (oi := { dst := some 69, op := Op.move (Operand.tmp 7), type := 3, pos := "tree.go:307", after := #[], guard := none }) (v := ?vp4) rfl (by kernel_rfl) (by kernel_rfl) (by kernel_rfl) (fun _ _ _ h => h) (Or.inl ⟨by rfl, ?yp4⟩) (by assumption) ?rp4
        case yp4 =>
          intro wz hSw
          try dsimp only at hSw
          go_simp
          try with_reducible rfl
        try simp only [Act.put, List.setIfInBounds_toArray, List.set_cons_zero, List.set_cons_succ]
        refine wpAnyH_take (i := 5) (oi := { dst := some 70, op := Op.indexAddr 22 (Operand.tmp 68) (Operand.tmp 69), type := 0, pos := "tree.go:307", after := #[{ on := 3, ground := Ground.data }, { on := 4, ground := Ground.data }], guard := none }) (v := ?vp5) rfl (by kernel_rfl) (by kernel_rfl) (by kernel_rfl) (fun _ _ _ h => h) (Or.inl ⟨by rfl, ?yp5⟩) (by assumption) ?rp5
        case yp5 =>
          intro wz hSw
          try dsimp only at hSw
          go_simp
          try with_reducible rfl
        try simp only [Act.put, List.setIfInBounds_toArray, List.set_cons_zero, List.set_cons_succ]
        refine wpAnyH_take (i := 6) (oi := { dst := some 71, op := Op.fieldAddr 63 (Operand.tmp 70) 3, type := 0, pos := "tree.go:307", after := #[{ on := 5, ground := Ground.data }], guard := none }) (v := ?vp6) rfl (by kernel_rfl) (by kernel_rfl) (by kernel_rfl) (fun _ _ _ h => h) (Or.inl ⟨by rfl, ?yp6⟩) (by assumption) ?rp6
        case yp6 =>
          intro wz hSw
          try dsimp only at hSw
          go_simp
          try with_reducible rfl
        try simp only [Act.put, List.setIfInBounds_toArray, List.set_cons_zero, List.set_cons_succ]
        refine wpAnyH_take (i := 7) (oi := { dst := some 72, op := Op.load 25 (Operand.tmp 71), type := 25, pos := "tree.go:307", after := #[{ on := 6, ground := Ground.data }], guard := none }) (v := ?vp7) rfl (by kernel_rfl) (by kernel_rfl) (by kernel_rfl) (fun _ _ _ h => h) (Or.inl ⟨by rfl, ?yp7⟩) (by assumption) ?rp7
        case yp7 =>
          intro wz hSw
          try dsimp only at hSw
          go_simp
          try with_reducible rfl
        try simp only [Act.put, List.setIfInBounds_toArray, List.set_cons_zero, List.set_cons_succ]
        refine wpAnyH_take (i := 8) (oi := { dst := some 73, op := Op.call { callee := Callee.builtin Builtin.len, args := #[Operand.tmp 72], argTypes := #[25] }, type := 3, pos := "tree.go:307", after := #[{ on := 7, ground := Ground.data }], guard := none }) (v := ?vp8) rfl (by kernel_rfl) (by kernel_rfl) (by kernel_rfl) (fun _ _ _ h => h) (Or.inl ⟨by rfl, ?yp8⟩) (by assumption) ?rp8
        case yp8 =>
          intro wz hSw
          try dsimp only at hSw
          go_simp
          try with_reducible rfl
        try simp only [Act.put, List.setIfInBounds_toArray, List.set_cons_zero, List.set_cons_succ]
        refine wpAnyH_take (i := 9) (oi := { dst := some 74, op := Op.move (Operand.tmp 13), type := 3, pos := "tree.go:307", after := #[], guard := none }) (v := ?vp9) rfl (by kernel_rfl) (by kernel_rfl) (by kernel_rfl) (fun _ _ _ h => h) (Or.inl ⟨by rfl, ?yp9⟩) (by assumption) ?rp9
        case yp9 =>
          intro wz hSw
          try dsimp only at hSw
          go_simp
          try with_reducible rfl
        try simp only [Act.put, List.setIfInBounds_toArray, List.set_cons_zero, List.set_cons_succ]
        refine float_any (D := [(17, 14, .cells #[.slice none 0 0] 24), (18, 15, .cells #[.int .i64 0, .slice none 0 0, .slice none 0 0, .int .i64 0, .int .i64 0, .int .i64 0, .int .i64 0, .int .i64 0, .int .i64 0] 35), (19, 16, .cells #[.int .i64 0, .int .i64 0] 37)]) (Z := [20, 21, 22]) (Ps := [15, 16]) (n := 7) (fz := 3) (by kernel_rfl) (by simp) ⟨⟨_, rfl, fun w9 => alloc_tree w9⟩, ⟨⟨_, rfl, fun w9 => alloc_reply w9⟩, ⟨⟨_, rfl, fun w9 => alloc_fault w9⟩, trivial⟩⟩⟩ (fun _ _ _ _ _ => ⟨fun h => h, fun h => h⟩) HSM.out (by assumption) rfl (by kernel_rfl) (by first | decide | simp) ?_
        have hG0 := Lib.hid (g_start w6.drew)
        refine wpF_one (j := 10) (o := { dst := some 75, op := Op.makeSlice 25 (Operand.tmp 74) (Operand.tmp 74), type := 25, pos := "tree.go:307", after := #[{ on := 9, ground := Ground.data }, { on := 9, ground := Ground.data }], guard := none }) (by kernel_rfl) (by kernel_rfl) rfl HSM.out (by assumption) (fun x10 g10 s10 K9 hK9 => ?_)
        go_simp
        have gr10 := (Gr.alloc x10 (.cells (flatB (zerosB k)).toArray 5))
        have hG10 := Lib.hid (g_step hG0.out g10 gr10)
        refine hK9.out _ _ gr10 (fun hS10 => ?_)
        clear hK9 K9
        try simp only [Act.put, List.setIfInBounds_toArray, List.set_cons_zero, List.set_cons_succ]
        refine wpF_take (i := 11) (oi := { dst := some 76, op := Op.build 30 #[(0, Operand.const (Value.int IntKind.i64 4)), (2, Operand.tmp 66), (4, Operand.tmp 73), (6, Operand.tmp 75)], type := 30, pos := "tree.go:307", after := #[{ on := 1, ground := Ground.data }, { on := 8, ground := Ground.data }, { on := 10, ground := Ground.data }], guard := none }) (v := ?vp11) HSM.out rfl (by kernel_rfl) (by kernel_rfl) (by kernel_rfl) (fun _ _ _ h => h) (Or.inl ⟨by rfl, ?yp11⟩) (by assumption) hG10.out ?rp11
        case yp11 =>
          intro wz hSw
          try dsimp only at hSw
          go_simp
          try with_reducible rfl
        try simp only [Act.put, List.setIfInBounds_toArray, List.set_cons_zero, List.set_cons_succ]
        refine wpF_one (j := 12) (o := { dst := some 77, op := Op.call { callee := Callee.value (Operand.func 12), args := #[Operand.tmp 65, Operand.tmp 76], argTypes := #[24, 30] }, type := 38, pos := "tree.go:307", after := #[{ on := 0, ground := Ground.data }, { on := 11, ground := Ground.data }], guard := none }) (by kernel_rfl) (by kernel_rfl) rfl HSM.out (by assumption) (fun x12 g12 s12 K9 hK9 => ?_)
        go_simp
        refine (CA.out _ s12.1 _ ((made_byts hk200 rfl).up g12)).mono ?_
        rintro e z ⟨hbz, g3, cap3, sl3, vd3, vn3, rfl, ho3, hs3⟩
        obtain ⟨qa, qc, rfl, _⟩ := id hs3.d
        obtain ⟨na, nc, rfl, _⟩ := id hs3.ns
        clear ho3 hs3
        try go_wp2_with fail
        have gr12 := hbz
        have hG12 := Lib.hid (g_step hG10.out g12 gr12)
        refine hK9.out _ _ gr12 (fun hS12 => ?_)
        clear hK9 K9
        try simp only [Act.put, List.setIfInBounds_toArray, List.set_cons_zero, List.set_cons_succ]
        refine wpF_take (i := 13) (oi := { dst := some 64, op := Op.move (Operand.tmp 77), type := 38, pos := "tree.go:307", after := #[{ on := 12, ground := Ground.data }], guard := none }) (v := ?vp13) HSM.out rfl (by kernel_rfl) (by kernel_rfl) (by kernel_rfl) (fun _ _ _ h => h) (Or.inl ⟨by rfl, ?yp13⟩) (by assumption) hG12.out ?rp13
        case yp13 =>
          intro wz hSw
          try dsimp only at hSw
          go_simp
          try with_reducible rfl
        try simp only [Act.put, List.setIfInBounds_toArray, List.set_cons_zero, List.set_cons_succ]
        refine wpF_take (i := 14) (oi := { dst := some 78, op := Op.extract (Operand.tmp 64) 0, type := 24, pos := "tree.go:307", after := #[{ on := 13, ground := Ground.data }], guard := none }) (v := ?vp14) HSM.out rfl (by kernel_rfl) (by kernel_rfl) (by kernel_rfl) (fun _ _ _ h => h) (Or.inl ⟨by rfl, ?yp14⟩) (by assumption) hG12.out ?rp14
        case yp14 =>
          intro wz hSw
          try dsimp only at hSw
          go_simp
          try with_reducible rfl
        try simp only [Act.put, List.setIfInBounds_toArray, List.set_cons_zero, List.set_cons_succ]
        refine wpF_take (i := 15) (oi := { dst := some 79, op := Op.extract (Operand.tmp 64) 1, type := 35, pos := "tree.go:307", after := #[{ on := 13, ground := Ground.data }, { on := 20, ground := Ground.gcOnly Departure.lateStores }], guard := none }) (v := ?vp15) HSM.out rfl (by kernel_rfl) (by kernel_rfl) (by kernel_rfl) (fun _ _ _ h => h) (Or.inl ⟨by rfl, ?yp15⟩) (by assumption) hG12.out ?rp15
        case yp15 =>
          intro wz hSw
          try dsimp only at hSw
          go_simp
          try with_reducible rfl
        try simp only [Act.put, List.setIfInBounds_toArray, List.set_cons_zero, List.set_cons_succ]
        refine wpF_take (i := 16) (oi := { dst := some 80, op := Op.extract (Operand.tmp 64) 2, type := 37, pos := "tree.go:307", after := #[{ on := 13, ground := Ground.data }, { on := 21, ground := Ground.gcOnly Departure.lateStores }], guard := none }) (v := ?vp16) HSM.out rfl (by kernel_rfl) (by kernel_rfl) (by kernel_rfl) (fun _ _ _ h => h) (Or.inl ⟨by rfl, ?yp16⟩) (by assumption) hG12.out ?rp16
        case yp16 =>
          intro wz hSw
          try dsimp only at hSw
          go_simp
          try with_reducible rfl
        try simp only [Act.put, List.setIfInBounds_toArray, List.set_cons_zero, List.set_cons_succ]
        refine wpF_done (by kernel_rfl) (fun x9 g9 s9 bf hbf hne => ?_)
        obtain ⟨lo17, h17, ng17⟩ := hbf _ (List.mem_cons_self ..)
        obtain ⟨lo18, h18, ng18⟩ := hbf _ (List.mem_cons_of_mem _ (List.mem_cons_self ..))
        obtain ⟨lo19, h19, ng19⟩ := hbf _ (List.mem_cons_of_mem _ (List.mem_cons_of_mem _ (List.mem_cons_self ..)))
        clear hbf
        simp at hne
        simp only [setD, putD, List.foldl_cons, List.foldl_nil, ptr]
        dsimp only at lo17 h17 ng17 lo18 h18 ng18 lo19 h19 ng19
        generalize bf 17 = p17 at *
        generalize bf 18 = p18 at *
        generalize bf 19 = p19 at *
        try simp only [Act.put, List.setIfInBounds_toArray, List.set_cons_zero, List.set_cons_succ]
        have B9 := s9.1
        have K17 := blk_of_heap (l := [.slice none 0 0]) h17
        have K18 := blk_of_heap (l := [.int .i64 0, .slice none 0 0, .slice none 0 0, .int .i64 0, .int .i64 0, .int .i64 0, .int .i64 0, .int .i64 0, .int .i64 0]) h18
        have K19 := blk_of_heap (l := [.int .i64 0, .int .i64 0]) h19
        have lo17 : w6.heap.size ≤ p17 := lo17
        have lo18 : w6.heap.size ≤ p18 := lo18
        have lo19 : w6.heap.size ≤ p19 := lo19
        have n1 : p18 ≠ p17 := fun h => hne.1.1 h.symm
        have n2 : p19 ≠ p17 := fun h => hne.1.2 h.symm
        have n3 : p19 ≠ p18 := fun h => hne.2 h.symm
        clear hne ng17 ng18 ng19
        have c17 := K17.c 0 _ rfl
        have l17 := K17.lt
        have z17 := frozen_of_heap h17
        have z18 := frozen_of_heap h18
        have z19 := frozen_of_heap h19
        have l18 := K18.lt
        have l19 := K19.lt
        clear h17 h18 h19
        refine wpAnyH_ready (rs := [20]) (by kernel_rfl) (by simp) ?_
        refine AllReadyH.cons (o := { dst := none, op := Op.store 24 (Operand.tmp 14) (Operand.tmp 78), type := 0, pos := "tree.go:307", after := #[{ on := 17, ground := Ground.data }, { on := 14, ground := Ground.data }, { on := 12, ground := Ground.chain }, { on := 0, ground := Ground.phase }, { on := 1, ground := Ground.phase }, { on := 2, ground := Ground.phase }, { on := 3, ground := Ground.phase }, { on := 4, ground := Ground.phase }, { on := 5, ground := Ground.phase }, { on := 6, ground := Ground.phase }, { on := 7, ground := Ground.phase }, { on := 8, ground := Ground.phase }, { on := 9, ground := Ground.phase }, { on := 10, ground := Ground.phase }, { on := 11, ground := Ground.phase }, { on := 12, ground := Ground.phase }, { on := 13, ground := Ground.phase }, { on := 14, ground := Ground.phase }, { on := 15, ground := Ground.textOnly Departure.lateStores }, { on := 16, ground := Ground.textOnly Departure.lateStores }, { on := 17, ground := Ground.phase }, { on := 18, ground := Ground.phase }, { on := 19, ground := Ground.phase }], guard := none }) rfl (fun K9 hK9 => ?_) AllReadyH.nil
        go_simp
        refine hK9.out _ _ (K.out _ (B9.setCell (p := ⟨p17, 0, none⟩) lo17 (.slice (some ⟨g3, 0, none⟩) tn.length cap3))) (fun hT20 => ?_)
        clear hK9 K9
        try simp only [Act.put, List.setIfInBounds_toArray, List.set_cons_zero, List.set_cons_succ]
        have B10 := hT20.1
        have K18b := K18.far (p := ⟨p17, 0, none⟩) n1 (.slice (some ⟨g3, 0, none⟩) tn.length cap3)
        have K19b := K19.far (p := ⟨p17, 0, none⟩) n2 (.slice (some ⟨g3, 0, none⟩) tn.length cap3)
        clear K18 K19 K17 c17
        have c18_0 := K18b.c 0 _ rfl
        have c18_1 := K18b.c 1 _ rfl
        have c18_2 := K18b.c 2 _ rfl
        have c18_3 := K18b.c 3 _ rfl
        have c18_4 := K18b.c 4 _ rfl
        have c18_5 := K18b.c 5 _ rfl
        have c18_6 := K18b.c 6 _ rfl
        have c18_7 := K18b.c 7 _ rfl
        have c18_8 := K18b.c 8 _ rfl
        refine wpAnyH_ready (rs := [21]) (by kernel_rfl) (by simp) ?_
        refine AllReadyH.cons (o := { dst := none, op := Op.store 35 (Operand.tmp 15) (Operand.tmp 79), type := 0, pos := "tree.go:307", after := #[{ on := 18, ground := Ground.data }, { on := 15, ground := Ground.data }, { on := 20, ground := Ground.chain }, { on := 0, ground := Ground.phase }, { on := 1, ground := Ground.phase }, { on := 2, ground := Ground.phase }, { on := 3, ground := Ground.phase }, { on := 4, ground := Ground.phase }, { on := 5, ground := Ground.phase }, { on := 6, ground := Ground.phase }, { on := 7, ground := Ground.phase }, { on := 8, ground := Ground.phase }, { on := 9, ground := Ground.phase }, { on := 10, ground := Ground.phase }, { on := 11, ground := Ground.phase }, { on := 12, ground := Ground.phase }, { on := 13, ground := Ground.phase }, { on := 14, ground := Ground.phase }, { on := 15, ground := Ground.phase }, { on := 16, ground := Ground.textOnly Departure.lateStores }, { on := 17, ground := Ground.phase }, { on := 18, ground := Ground.phase }, { on := 19, ground := Ground.phase }, { on := 20, ground := Ground.phase }], guard := none }) rfl (fun K9 hK9 => ?_) AllReadyH.nil
        go_simp
        refine hK9.out _ _ (K.out _ (below9 B10 lo18 (.int .i64 pp.c) (.slice qa pp.d.length qc) (.slice na pp.ns.length nc) (.int .i64 pp.s.i) (.int .i64 pp.s.k) (.int .i64 pp.s.o) (.int .i64 pp.s.z) (.int .i64 pp.s.l) (.int .i64 pp.s.v))) (fun hT21 => ?_)
        clear hK9 K9
        try simp only [Act.put, List.setIfInBounds_toArray, List.set_cons_zero, List.set_cons_succ]
        have B11 := hT21.1
        have K19c := K19b.far9 n3 (.int .i64 pp.c) (.slice qa pp.d.length qc) (.slice na pp.ns.length nc) (.int .i64 pp.s.i) (.int .i64 pp.s.k) (.int .i64 pp.s.o) (.int .i64 pp.s.z) (.int .i64 pp.s.l) (.int .i64 pp.s.v)
        have K18c := (store9 K18b rfl B10 lo18 (.int .i64 pp.c) (.slice qa pp.d.length qc) (.slice na pp.ns.length nc) (.int .i64 pp.s.i) (.int .i64 pp.s.k) (.int .i64 pp.s.o) (.int .i64 pp.s.z) (.int .i64 pp.s.l) (.int .i64 pp.s.v)).1
        clear K18b K19b c18_0 c18_1 c18_2 c18_3 c18_4 c18_5 c18_6 c18_7 c18_8
        have c19_0 := K19c.c 0 _ rfl
        have c19_1 := K19c.c 1 _ rfl
        refine wpAnyH_ready (rs := [22]) (by kernel_rfl) (by simp) ?_
        refine AllReadyH.cons (o := { dst := none, op := Op.store 37 (Operand.tmp 16) (Operand.tmp 80), type := 0, pos := "tree.go:307", after := #[{ on := 19, ground := Ground.data }, { on := 16, ground := Ground.data }, { on := 21, ground := Ground.chain }, { on := 0, ground := Ground.phase }, { on := 1, ground := Ground.phase }, { on := 2, ground := Ground.phase }, { on := 3, ground := Ground.phase }, { on := 4, ground := Ground.phase }, { on := 5, ground := Ground.phase }, { on := 6, ground := Ground.phase }, { on := 7, ground := Ground.phase }, { on := 8, ground := Ground.phase }, { on := 9, ground := Ground.phase }, { on := 10, ground := Ground.phase }, { on := 11, ground := Ground.phase }, { on := 12, ground := Ground.phase }, { on := 13, ground := Ground.phase }, { on := 14, ground := Ground.phase }, { on := 15, ground := Ground.phase }, { on := 16, ground := Ground.phase }, { on := 17, ground := Ground.phase }, { on := 18, ground := Ground.phase }, { on := 19, ground := Ground.phase }, { on := 20, ground := Ground.phase }, { on := 21, ground := Ground.phase }], guard := none }) rfl (fun K9 hK9 => ?_) AllReadyH.nil
        go_simp
        refine hK9.out _ _ (K.out _ ((B11.setCell (p := ⟨p19, 0, none⟩) lo19 (.int .i64 0)).setCell (p := ⟨p19, 1, none⟩) lo19 (.int .i64 0))) (fun hT22 => ?_)
        clear hK9 K9
        try simp only [Act.put, List.setIfInBounds_toArray, List.set_cons_zero, List.set_cons_succ]
        refine wpAnyH_done (by kernel_rfl) ?_ _
        have K18d := (K18c.far (p := ⟨p19, 0, none⟩) (fun h => n3 h.symm) (.int .i64 0)).far (p := ⟨p19, 1, none⟩) (fun h => n3 h.symm) (.int .i64 0)
        have K19d := (K19c.put 0 (.int .i64 0) (by simp)).put 1 (.int .i64 0) (by simp)
        go_wp2_with fail
        go_meet
        exact ⟨_, _, _, rfl, rfl, rfl, hT22.1, K18d.c 0 _ rfl, K19d.c 0 _ rfl⟩
      case rest =>
        obtain ⟨b14, b15, b16, rfl, rfl, rfl, bx, cc, cf⟩ := hcut
        obtain ⟨w7, rfl⟩ : ∃ w7 : World, w7 = wc := ⟨_, rfl⟩
        have F7 := F5.out.below bx F5.out.lt
        obtain ⟨fl, f0, f1, fz0, fz1⟩ := F7
        have B7 := Lib.hid (B5.out.trans (bx.mono B5.out.size))
        clear bx B5 F5 CA t6 tl6 i6 hb6
        rcases HR.out.2 with ⟨hc, hle⟩ | ⟨hc, hle⟩
        · rw [hc] at cc
          go_wp2
          go_ret
          exact ⟨by simp [hle], B7.out⟩
        · rcases hc with hc | hc
          all_goals
            rw [hc] at cc
            go_wp2
            go_ret
            exact ⟨by simp [hle], B7.out⟩
    · have hkb : ((nod (tr t) n).k != 2) = true := by simpa using hk
      clear HW C2
      generalize (nod (tr t) n).k = gk at *
      go_wp2
      go_ret
      exact ⟨rfl, B4.out⟩
  · have hfb : (fc != 0) = true := by simpa using hf
    have hfb2 : (fc == 0) = false := by simpa using hf
    have hn := HE.out hf
    subst hn
    clear HW hf HE HV
    go_wp2
    go_ret
    exact ⟨rfl, B4.out⟩

theorem lawExact_row (a : Option Addr) (c : Nat) (t : FT) (p : ByteArray) (more : Int) (w : World) (gm : GM w) (hp : p.size ≤ maxLen) (hm : 0 ≤ more ∧ more < 256) (h : FNods w w.heap.size a c t) :
    Calls Tryz.prog 11 #[.agg #[.slice a t.length c], .string p, .int .u8 more] w fun e w' => e = .returned (.bool true) ∧ Below w.heap.size w w' :=
  lawExact_any a c t p more w gm h hp hm.1 (by omega)

end Go.Proofs.YtmbbmmnpkdfecaaGreatDoor
