/- Package memfs and what it calls, at this seat's translation.
   Condition: as each theorem states; this text: MfCloneW. -/
import Derived.Test.YtmbbmmnpkdfecaaGreatDoorMb9
import Derived.Deep.LoopGhost

set_option linter.all false

/- cloneTree's walk. Conditions: the tree's cells lie in memory as they read; one to a thousand inodes, each with lists of a thousand at the most. -/

set_option linter.all false
namespace Go.Proofs.YtmbbmmnpkdfecaaGreatDoor
open Go.RowKit

theorem upd_same (sl : Nat → Sl) (k : Nat) (s : Sl) : upd sl k s k = s := by unfold upd; rw [if_pos rfl]
theorem upd_other (sl : Nat → Sl) {k j : Nat} (s : Sl) (h : j ≠ k) : upd sl k s j = sl j := by unfold upd; rw [if_neg h]
theorem upd_twice (sl : Nat → Sl) (k : Nat) (s s' : Sl) : upd (upd sl k s) k s' = upd sl k s' := by
  funext i; unfold upd; by_cases h : i = k <;> simp [h]
theorem upd_self (sl : Nat → Sl) (k : Nat) : upd sl k (sl k) = sl := by
  funext i; unfold upd; by_cases h : i = k <;> simp [h]
theorem CT.store2 {w : World} {base g cap k : Nat} {sl : Nat → Sl} {s : Sl} {t : FT} (h : CT w base g cap (upd sl k s) t k) (hk : k < t.length) {i : Nat} (hi : i < 8) (u : Value) (s' : Sl)
    (hc : inoL (ino t k) s' = (inoL (ino t k) s).set i u) :
    CT (w.setCell ⟨g, k * 8 + i, none⟩ u) base g cap (upd sl k s') t k ∧ w.grownBy (w.setCell ⟨g, k * 8 + i, none⟩ u) (some g) := by
  have := h.store hk hi u s' (by rw [upd_same]; exact hc)
  rwa [upd_twice] at this
theorem CT.at_ {w : World} {base g cap k : Nat} {sl : Nat → Sl} {s : Sl} {t : FT} (h : CT w base g cap (upd sl k s) t k) (hk : k < t.length) : ∀ i u, (inoL (ino t k) s)[i]? = some u → w.cell? ⟨g, k * 8 + i, none⟩ = some u := fun i u hu => h.c k hk i u (by rw [upd_same]; exact hu)
theorem own_form {w : World} {base size n : Nat} {e : TypeId} {v : Value} {xs : List Value} (h : w.ownsRow base e size v n xs) : ∃ a c, v = .slice a n c := by
  rcases h.2 with ⟨hv, h0⟩ | ⟨g, cap, cur, hv, _⟩
  · exact ⟨none, 0, by rw [hv, h0]⟩
  · exact ⟨_, _, hv⟩
theorem own_setlow {w : World} {base size n : Nat} {e : TypeId} {v : Value} {xs : List Value} (h : w.ownsRow base e size v n xs) {p : Addr} (hp : p.block < base) (u : Value) : (w.setCell p u).ownsRow base e size v n xs := ownsRow_setCell_below h hp u
theorem OT.low {w : World} {base g cap : Nat} {sl : Nat → Sl} {t : FT} (h : OT w base g cap sl t) {p : Addr} (hp : p.block < base) (u : Value) : OT (w.setCell p u) base g cap sl t := by
  have hg := h.lt.1
  obtain ⟨cs, ho⟩ := h.own
  refine ⟨⟨cs, own_setlow ho hp u⟩, fun j hj i v hv => ?_, fun j hj => ?_, h.ne, h.fit, h.len⟩
  · exact (World.cell?_setCell_other w _ _ u (fun e => by have := congrArg Addr.block e; simp at this; omega)).trans (h.c j hj i v hv)
  · have := h.r j hj
    exact ⟨own_setlow this.e hp u, own_setlow this.d hp u, own_setlow this.a hp u, own_setlow this.x hp u⟩
theorem OT.lower {w : World} {base base' g cap : Nat} {sl : Nat → Sl} {t : FT} (h : OT w base g cap sl t) (hb : base' ≤ base) : OT w base' g cap sl t := by
  obtain ⟨cs, ho⟩ := h.own
  refine ⟨⟨cs, own_lower ho hb⟩, h.c, fun j hj => ?_, h.ne, h.fit, h.len⟩
  have := h.r j hj
  exact ⟨own_lower this.e hb, own_lower this.d hb, own_lower this.a hb, own_lower this.x hb⟩
/-- What cloneTree returns. -/
def ClonePost (t : FT) (w : World) (e : Ending) (w' : World) : Prop :=
  ∃ g cap sl, e = .returned (.agg #[.slice (some ⟨g, 0, none⟩) t.length cap]) ∧ OT w' w.heap.size g cap sl t ∧ Below w.heap.size w w'

set_option maxRecDepth 100000 in
set_option maxHeartbeats 8000000 in
theorem cloneTree_any (a : Option Addr) (c : Nat) (t : FT) (w : World) (h : FNods w w.heap.size a c t) (hf : ∀ j, j < t.length → Fit (ino t j)) (h1 : 0 < t.length) (hl : t.length ≤ 1000) :
    Calls Tryz.prog 32 #[.agg #[.slice a t.length c]] w (ClonePost t w) := by
  obtain ⟨b, o, rfl, hb, hj⟩ := h.at_ h1
  have hcap := h.cap
  -- the slices of the inodes as they came
  obtain ⟨sl0, hsl⟩ : ∃ sl0 : Nat → Sl, ∀ j, j < t.length → NodC w b (o + j * 8) (sl0 j).e (sl0 j).d (sl0 j).a (sl0 j).x (ino t j).nod ∧ NodS w w.heap.size (sl0 j).e (sl0 j).d (sl0 j).a (sl0 j).x (ino t j).nod ∧ Byts w w.heap.size (sl0 j).d (ino t j).d :=
    ⟨fun j => if hjl : j < t.length then (hj j hjl).choose else ⟨undef, undef, undef, undef⟩, fun j hjl => by simp only [dif_pos hjl]; exact (hj j hjl).choose_spec⟩
  have CI := Lib.hid (fun W (hb2 : Below w.heap.size w W) => cloneI_any (some ⟨b, o, none⟩) t.length c (flatN t sl0 t.length) W (flatN_len _ _ _) (by omega) (fun e => by cases e) (fun ad e j u hu => by
    injection e with e
    subst e
    have hjl := (List.getElem?_eq_some_iff.1 hu).1
    rw [flatN_len] at hjl
    have e2 : j = j / 8 * 8 + j % 8 := by omega
    rw [e2, flatN_get t sl0 _ _ _ (by omega) (by omega)] at hu
    have := nodC_list (s := sl0 (j / 8)) (hsl (j / 8) (by omega)).1 _ _ hu
    rw [add_plain2]
    refine ((hb2.cell (p := ⟨b, o + j, none⟩) hb).trans ?_)
    rw [show o + j = o + j / 8 * 8 + j % 8 by omega]
    exact this) (flatN_one _ _ _ fun j hjl => by
      obtain ⟨_, hs, _⟩ := hsl j hjl
      obtain ⟨_, _, e1, _⟩ := hs.es
      obtain ⟨_, _, e2, _⟩ := hs.dl
      obtain ⟨_, _, e3, _⟩ := hs.ac
      obtain ⟨_, _, e4, _⟩ := hs.xs
      exact inoL_one (by rw [e1]; rfl) (by rw [e2]; rfl) (by rw [e3]; rfl) (by rw [e4]; rfl)))
  have HS := Lib.hid (fun j hjl => (hsl j hjl).2)
  have HF := Lib.hid hf
  have B0 := Lib.hid (show Below w.heap.size w ((w.alloc (.cells #[.slice (some ⟨b, o, none⟩) t.length c] 24)).alloc (.cells #[.slice none 0 0] 24)) from ((Below.refl _ _).alloc (Nat.le_refl _) _).alloc (by simp) _)
  have R0 := Lib.hid (show One ((w.alloc (.cells #[.slice (some ⟨b, o, none⟩) t.length c] 24)).alloc (.cells #[.slice none 0 0] 24)) (w.heap.size + 1) (.slice none 0 0) from (One.new (w.alloc _) _ _).at_ (by simp))
  clear h hj hsl hf
  go_enter Tryz.func32, Tryz.ntmps32
  go_wp2_with fail
  refine (CI.out _ B0.out).mono ?_
  rintro e w1 ⟨v1, rfl, own1, b1⟩
  have R1 := Lib.hid (R0.out.below b1 R0.out.lt)
  have B1 := Lib.hid (B0.out.trans (b1.mono B0.out.size))
  have hg1 : ∃ g cap, v1 = .slice (some ⟨g, 0, none⟩) t.length cap ∧ w.heap.size + 2 ≤ g := by
    rcases own1.2 with ⟨_, h0⟩ | ⟨g, cap, cur, hv, hbg, _⟩
    · omega
    · exact ⟨g, cap, hv, by simpa using hbg⟩
  obtain ⟨g, cap, rfl, hgb⟩ := hg1
  have CT0 := Lib.hid (show CT w1 (w.heap.size + 2) g cap sl0 t 0 from ⟨⟨_, own_lower own1 (by simp)⟩, fun j hj i u hu => by
    have hi : i < 8 := (List.getElem?_eq_some_iff.1 hu).1
    rw [own1.cellAt (j * 8 + i) (by omega), flatN_get t sl0 _ _ _ hj hi]; exact hu, fun j hj => absurd hj (Nat.not_lt_zero _), fun i j hi => absurd hi (Nat.not_lt_zero _)⟩)
  clear b1 own1 CI R0 B0
  go_wp2_with fail
  go_loopg [4, 5, 11] t.length (fun gg _ _ s11 wr => ∃ k : Nat, ∃ sl : Nat → Sl, k ≤ t.length ∧ t.length - k ≤ gg ∧ s11 = .int .i64 k ∧ Aside (CT wr (w.heap.size + 2) g cap sl t k) ∧ Aside (∀ j, k ≤ j → j < t.length → sl j = sl0 j) ∧ Aside (Below w.heap.size w wr) ∧ Aside (One wr (w.heap.size + 1) (.slice none 0 0)))
  case atStart => exact ⟨0, sl0, by omega, by omega, rfl, CT0.out, (show ∀ j, 0 ≤ j → j < t.length → sl0 j = sl0 j from fun _ _ _ => rfl), B1.out, R1.out⟩
  case round =>
    obtain ⟨k, sl, hk, hg, rfl, CTk, SLk, BW, RW⟩ := hrel
    clear CT0 B1 R1
    obtain ⟨y0, rfl⟩ : ∃ y : World, y = wr := ⟨_, rfl⟩
    by_cases hlt : k < t.length
    · have hltz : (k : Int) < (t.length : Int) := by omega
      have hkz : (0 : Int) ≤ (k : Int) := Int.natCast_nonneg _
      have hm9 : t.length - (k + 1) < t.length - k := Nat.sub_lt_sub_left hlt (Nat.lt_succ_self k)
      have hgl := CTk.out.lt.2
      obtain ⟨hns, hby⟩ := HS.out k hlt
      have hFk := HF.out k hlt
      have hse := SLk.out k (Nat.le_refl _) hlt
      obtain ⟨⟨se, sd, sa, sx⟩, hS⟩ : ∃ s : Sl, s = sl k := ⟨_, rfl⟩
      rw [← hse, ← hS] at hns hby
      obtain ⟨ea, ec, rfl, _⟩ := hns.es
      obtain ⟨da, dc, rfl, _⟩ := id hby
      obtain ⟨aa, ac, rfl, _⟩ := hns.ac
      obtain ⟨xa, xc, rfl, _⟩ := hns.xs
      have NE := Lib.hid (fun y (hy : Below w.heap.size w y) => (hns.es.keep (w' := y) fun b o hB => hy.cell (p := ⟨b, o, none⟩) hB).news)
      have ND := Lib.hid (fun y (hy : Below w.heap.size w y) => (hby.keep (w' := y) fun b o hB => hy.cell (p := ⟨b, o, none⟩) hB).news)
      have NA := Lib.hid (fun y (hy : Below w.heap.size w y) => (hns.ac.keep (w' := y) fun b o hB => hy.cell (p := ⟨b, o, none⟩) hB).news)
      have NX := Lib.hid (fun y (hy : Below w.heap.size w y) => (hns.xs.keep (w' := y) fun b o hB => hy.cell (p := ⟨b, o, none⟩) hB).news)
      have L1 := hFk.le
      have L2 := hFk.ld
      have L3 := hFk.la
      have L4 := hFk.lx
      have CC0 := Lib.hid (show CT y0 (w.heap.size + 2) g cap (upd sl k ⟨.slice ea (ino t k).es.length ec, .slice da (ino t k).d.length dc, .slice aa (ino t k).ac.length ac, .slice xa (ino t k).xs.length xc⟩) t k from by
        have e : upd sl k ⟨.slice ea (ino t k).es.length ec, .slice da (ino t k).d.length dc, .slice aa (ino t k).ac.length ac, .slice xa (ino t k).xs.length xc⟩ = sl := by
          rw [show (⟨.slice ea (ino t k).es.length ec, .slice da (ino t k).d.length dc, .slice aa (ino t k).ac.length ac, .slice xa (ino t k).xs.length xc⟩ : Sl) = sl k from hS, upd_self]
        rw [e]; exact CTk.out)
      have c0 : y0.cell? ⟨g, k * 8, none⟩ = some (.int .i64 (ino t k).k) := CC0.out.at_ hlt 0 _ rfl
      have c1 := CC0.out.at_ hlt 1 _ rfl
      have c2 := CC0.out.at_ hlt 2 _ rfl
      have c3 := CC0.out.at_ hlt 3 _ rfl
      have c4 := CC0.out.at_ hlt 4 _ rfl
      have c5 := CC0.out.at_ hlt 5 _ rfl
      have c6 := CC0.out.at_ hlt 6 _ rfl
      have c7 := CC0.out.at_ hlt 7 _ rfl
      have SL1 := Lib.hid (fun j (h1 : k + 1 ≤ j) (h2 : j < t.length) => SLk.out j (by omega) h2)
      have OLD := Lib.hid (fun j (hj : j < k) b (hb : (sl j).e.ownBlock = some b) => (CTk.out.r j hj).e.lt b hb)
      clear hns hby hFk hse hS CTk SLk
      have hyb := BW.out.size
      have CB := Lib.hid (CC0.out.up ((Below.refl y0.heap.size y0).alloc (Nat.le_refl _) (.cells #[.int .i64 (ino t k).k, .int .i64 (ino t k).o, .slice ea (ino t k).es.length ec, .slice da (ino t k).d.length dc, .slice aa (ino t k).ac.length ac, .slice xa (ino t k).xs.length xc, .int .i64 (ino t k).q, .int .i64 (ino t k).v] 63)))
      have BB := Lib.hid (BW.out.alloc hyb (.cells #[.int .i64 (ino t k).k, .int .i64 (ino t k).o, .slice ea (ino t k).es.length ec, .slice da (ino t k).d.length dc, .slice aa (ino t k).ac.length ac, .slice xa (ino t k).xs.length xc, .int .i64 (ino t k).q, .int .i64 (ino t k).v] 63))
      have RB := Lib.hid (RW.out.alloc (.cells #[.int .i64 (ino t k).k, .int .i64 (ino t k).o, .slice ea (ino t k).es.length ec, .slice da (ino t k).d.length dc, .slice aa (ino t k).ac.length ac, .slice xa (ino t k).xs.length xc, .int .i64 (ino t k).q, .int .i64 (ino t k).v] 63))
      have XB := Lib.hid (Blk.new y0 [.int .i64 (ino t k).k, .int .i64 (ino t k).o, .slice ea (ino t k).es.length ec, .slice da (ino t k).d.length dc, .slice aa (ino t k).ac.length ac, .slice xa (ino t k).xs.length xc, .int .i64 (ino t k).q, .int .i64 (ino t k).v] 63)
      have gx : ¬ g = y0.heap.size := by omega
      have gx2 : y0.heap.size < y0.heap.size + 1 := by omega
      clear CC0 BW RW
      go_wp2_with fail
      have HY := Lib.hid (show y0.heap.size ≤ (y0.alloc (.cells #[.int .i64 (ino t k).k, .int .i64 (ino t k).o, .slice ea (ino t k).es.length ec, .slice da (ino t k).d.length dc, .slice aa (ino t k).ac.length ac, .slice xa (ino t k).xs.length xc, .int .i64 (ino t k).q, .int .i64 (ino t k).v] 63)).heap.size by simp)
      change Calls _ _ _ (y0.alloc (.cells ([.int .i64 (ino t k).k, .int .i64 (ino t k).o, .slice ea (ino t k).es.length ec, .slice da (ino t k).d.length dc, .slice aa (ino t k).ac.length ac, .slice xa (ino t k).xs.length xc, .int .i64 (ino t k).q, .int .i64 (ino t k).v] : List Value).toArray 63)) _
      generalize hz0 : y0.alloc _ = z0 at *
      clear hz0 c0 c1 c2 c3 c4 c5 c6 c7
      generalize y0.heap.size = nb at *
      obtain ⟨h0, _, hc⟩ := NE.out z0 BB.out
      refine (cloneD_any ea (ino t k).es.length ec (flatD (ino t k).es) z0 (flatD_len _) (by omega) h0 hc (flatD_one _)).mono ?_
      rintro e y1 ⟨v, rfl, own, b9⟩
      obtain ⟨e1, e2, rfl⟩ := own_form own
      have hlE := Lib.hid (show w.heap.size + 2 ≤ z0.heap.size from RB.out.lt)
      have CV := Lib.hid (CB.out.up b9)
      have BV := Lib.hid (BB.out.trans (b9.mono BB.out.size))
      have RV := Lib.hid (RB.out.below b9 RB.out.lt)
      have XV := Lib.hid (XB.out.up b9)
      have hlo := Lib.hid (show ∀ b, (Value.slice e1 (ino t k).es.length e2).ownBlock = some b → nb ≤ b from fun b hb => Nat.le_trans HY.out (own.lt b hb).1)
      have OE0 := Lib.hid own
      have HY9 := Lib.hid (Nat.le_trans HY.out b9.size)
      clear b9 own h0 hc
      have CW := CV.out.store2 hlt (i := 2) (by omega) (.slice e1 (ino t k).es.length e2) ⟨.slice e1 (ino t k).es.length e2, .slice da (ino t k).d.length dc, .slice aa (ino t k).ac.length ac, .slice xa (ino t k).xs.length xc⟩ rfl
      have CT1 := Lib.hid CW.1
      have GW := Lib.hid CW.2
      clear CW
      have BT1 := Lib.hid (BV.out.setCell (p := ⟨g, k * 8 + 2, none⟩) (by have := CV.out.lt.1; simp; omega) (.slice e1 (ino t k).es.length e2))
      have RT1 := Lib.hid (RV.out.far (p := ⟨g, k * 8 + 2, none⟩) (by have := CV.out.lt.1; simp; omega) (.slice e1 (ino t k).es.length e2))
      have XT1 := Lib.hid (XV.out.far (p := ⟨g, k * 8 + 2, none⟩) (by simp; omega) (.slice e1 (ino t k).es.length e2))
      obtain ⟨cs, hown⟩ := CV.out.own
      have cz := CV.out.at_ hlt 2 _ rfl
      have fz := CV.out.frozen (k * 8 + 2)
      have lz := CV.out.lt.2
      have OE := Lib.hid (own_kept OE0.out GW.out (fun b e => by injection e with e; subst e; exact own_apart hown OE0.out (by decide) rfl))
      have xb := XT1.out.c 3 _ rfl
      have xl := XT1.out.lt
      clear hown CV RV XV BV GW OE0 CB BB RB XB
      go_wp2_with fail
      have HYn := Lib.hid (show nb ≤ (y1.setCell ⟨g, k * 8 + 2, none⟩ (.slice e1 (ino t k).es.length e2)).heap.size by simpa using HY9.out)
      clear HY HY9
      generalize hzz : y1.setCell _ _ = z1 at *
      clear hzz cz fz lz xb xl
      have HY := HYn
      clear HYn
      have hloE := hlo
      clear hlo
      obtain ⟨h0, _, hc⟩ := ND.out z1 BT1.out
      refine (cloneB_any da (ino t k).d.length dc (flatB (ino t k).d) z1 (flatB_len _) (by omega) h0 hc (flatB_one _)).mono ?_
      rintro e y2 ⟨v, rfl, own, b9⟩
      obtain ⟨d1, d2, rfl⟩ := own_form own
      have hlD := Lib.hid (show w.heap.size + 2 ≤ z1.heap.size from RT1.out.lt)
      have CV := Lib.hid (CT1.out.up b9)
      have BV := Lib.hid (BT1.out.trans (b9.mono BT1.out.size))
      have RV := Lib.hid (RT1.out.below b9 RT1.out.lt)
      have XV := Lib.hid (XT1.out.up b9)
      have hlo := Lib.hid (show ∀ b, (Value.slice d1 (ino t k).d.length d2).ownBlock = some b → nb ≤ b from fun b hb => Nat.le_trans HY.out (own.lt b hb).1)
      have OD0 := Lib.hid own
      have PE := Lib.hid (own_kept OE.out (grown_below b9) (fun g e => by cases e))
      have HY9 := Lib.hid (Nat.le_trans HY.out b9.size)
      clear b9 own h0 hc
      have CW := CV.out.store2 hlt (i := 3) (by omega) (.slice d1 (ino t k).d.length d2) ⟨.slice e1 (ino t k).es.length e2, .slice d1 (ino t k).d.length d2, .slice aa (ino t k).ac.length ac, .slice xa (ino t k).xs.length xc⟩ rfl
      have CT2 := Lib.hid CW.1
      have GW := Lib.hid CW.2
      clear CW
      have BT2 := Lib.hid (BV.out.setCell (p := ⟨g, k * 8 + 3, none⟩) (by have := CV.out.lt.1; simp; omega) (.slice d1 (ino t k).d.length d2))
      have RT2 := Lib.hid (RV.out.far (p := ⟨g, k * 8 + 3, none⟩) (by have := CV.out.lt.1; simp; omega) (.slice d1 (ino t k).d.length d2))
      have XT2 := Lib.hid (XV.out.far (p := ⟨g, k * 8 + 3, none⟩) (by simp; omega) (.slice d1 (ino t k).d.length d2))
      obtain ⟨cs, hown⟩ := CV.out.own
      have cz := CV.out.at_ hlt 3 _ rfl
      have fz := CV.out.frozen (k * 8 + 3)
      have lz := CV.out.lt.2
      have OD := Lib.hid (own_kept OD0.out GW.out (fun b e => by injection e with e; subst e; exact own_apart hown OD0.out (by decide) rfl))
      have QE := Lib.hid (own_kept PE.out GW.out (fun b e => by injection e with e; subst e; exact own_apart hown PE.out (by decide) rfl))
      have xb := XT2.out.c 4 _ rfl
      have xl := XT2.out.lt
      clear hown CV RV XV BV GW OD0 PE OE CT1 BT1 RT1 XT1
      go_wp2_with fail
      have HYn := Lib.hid (show nb ≤ (y2.setCell ⟨g, k * 8 + 3, none⟩ (.slice d1 (ino t k).d.length d2)).heap.size by simpa using HY9.out)
      clear HY HY9
      generalize hzz : y2.setCell _ _ = z2 at *
      clear hzz cz fz lz xb xl
      have HY := HYn
      clear HYn
      have OE := QE
      clear QE
      clear hlo
      obtain ⟨h0, _, hc⟩ := NA.out z2 BT2.out
      refine (cloneE_any aa (ino t k).ac.length ac (flatE (ino t k).ac) z2 (flatE_len _) (by omega) h0 hc (flatE_one _)).mono ?_
      rintro e y3 ⟨v, rfl, own, b9⟩
      obtain ⟨a1, a2, rfl⟩ := own_form own
      have hlA := Lib.hid (show w.heap.size + 2 ≤ z2.heap.size from RT2.out.lt)
      have CV := Lib.hid (CT2.out.up b9)
      have BV := Lib.hid (BT2.out.trans (b9.mono BT2.out.size))
      have RV := Lib.hid (RT2.out.below b9 RT2.out.lt)
      have XV := Lib.hid (XT2.out.up b9)
      have hlo := Lib.hid (show ∀ b, (Value.slice a1 (ino t k).ac.length a2).ownBlock = some b → nb ≤ b from fun b hb => Nat.le_trans HY.out (own.lt b hb).1)
      have OA0 := Lib.hid own
      have PE := Lib.hid (own_kept OE.out (grown_below b9) (fun g e => by cases e))
      have PD := Lib.hid (own_kept OD.out (grown_below b9) (fun g e => by cases e))
      have HY9 := Lib.hid (Nat.le_trans HY.out b9.size)
      clear b9 own h0 hc
      have CW := CV.out.store2 hlt (i := 4) (by omega) (.slice a1 (ino t k).ac.length a2) ⟨.slice e1 (ino t k).es.length e2, .slice d1 (ino t k).d.length d2, .slice a1 (ino t k).ac.length a2, .slice xa (ino t k).xs.length xc⟩ rfl
      have CT3 := Lib.hid CW.1
      have GW := Lib.hid CW.2
      clear CW
      have BT3 := Lib.hid (BV.out.setCell (p := ⟨g, k * 8 + 4, none⟩) (by have := CV.out.lt.1; simp; omega) (.slice a1 (ino t k).ac.length a2))
      have RT3 := Lib.hid (RV.out.far (p := ⟨g, k * 8 + 4, none⟩) (by have := CV.out.lt.1; simp; omega) (.slice a1 (ino t k).ac.length a2))
      have XT3 := Lib.hid (XV.out.far (p := ⟨g, k * 8 + 4, none⟩) (by simp; omega) (.slice a1 (ino t k).ac.length a2))
      obtain ⟨cs, hown⟩ := CV.out.own
      have cz := CV.out.at_ hlt 4 _ rfl
      have fz := CV.out.frozen (k * 8 + 4)
      have lz := CV.out.lt.2
      have OA := Lib.hid (own_kept OA0.out GW.out (fun b e => by injection e with e; subst e; exact own_apart hown OA0.out (by decide) rfl))
      have QE := Lib.hid (own_kept PE.out GW.out (fun b e => by injection e with e; subst e; exact own_apart hown PE.out (by decide) rfl))
      have QD := Lib.hid (own_kept PD.out GW.out (fun b e => by injection e with e; subst e; exact own_apart hown PD.out (by decide) rfl))
      have xb := XT3.out.c 5 _ rfl
      have xl := XT3.out.lt
      clear hown CV RV XV BV GW OA0 PE OE PD OD CT2 BT2 RT2 XT2
      go_wp2_with fail
      have HYn := Lib.hid (show nb ≤ (y3.setCell ⟨g, k * 8 + 4, none⟩ (.slice a1 (ino t k).ac.length a2)).heap.size by simpa using HY9.out)
      clear HY HY9
      generalize hzz : y3.setCell _ _ = z3 at *
      clear hzz cz fz lz xb xl
      have HY := HYn
      clear HYn
      have OE := QE
      clear QE
      have OD := QD
      clear QD
      clear hlo
      obtain ⟨h0, _, hc⟩ := NX.out z3 BT3.out
      refine (cloneA_any xa (ino t k).xs.length xc (flatA (ino t k).xs) z3 (flatA_len _) (by omega) h0 hc (flatA_one _)).mono ?_
      rintro e y4 ⟨v, rfl, own, b9⟩
      obtain ⟨x1, x2, rfl⟩ := own_form own
      have hlX := Lib.hid (show w.heap.size + 2 ≤ z3.heap.size from RT3.out.lt)
      have CV := Lib.hid (CT3.out.up b9)
      have BV := Lib.hid (BT3.out.trans (b9.mono BT3.out.size))
      have RV := Lib.hid (RT3.out.below b9 RT3.out.lt)
      have XV := Lib.hid (XT3.out.up b9)
      have hlo := Lib.hid (show ∀ b, (Value.slice x1 (ino t k).xs.length x2).ownBlock = some b → nb ≤ b from fun b hb => Nat.le_trans HY.out (own.lt b hb).1)
      have OX0 := Lib.hid own
      have PE := Lib.hid (own_kept OE.out (grown_below b9) (fun g e => by cases e))
      have PD := Lib.hid (own_kept OD.out (grown_below b9) (fun g e => by cases e))
      have PA := Lib.hid (own_kept OA.out (grown_below b9) (fun g e => by cases e))
      have HY9 := Lib.hid (Nat.le_trans HY.out b9.size)
      clear b9 own h0 hc
      have CW := CV.out.store2 hlt (i := 5) (by omega) (.slice x1 (ino t k).xs.length x2) ⟨.slice e1 (ino t k).es.length e2, .slice d1 (ino t k).d.length d2, .slice a1 (ino t k).ac.length a2, .slice x1 (ino t k).xs.length x2⟩ rfl
      have CT4 := Lib.hid CW.1
      have GW := Lib.hid CW.2
      clear CW
      have BT4 := Lib.hid (BV.out.setCell (p := ⟨g, k * 8 + 5, none⟩) (by have := CV.out.lt.1; simp; omega) (.slice x1 (ino t k).xs.length x2))
      have RT4 := Lib.hid (RV.out.far (p := ⟨g, k * 8 + 5, none⟩) (by have := CV.out.lt.1; simp; omega) (.slice x1 (ino t k).xs.length x2))
      have XT4 := Lib.hid (XV.out.far (p := ⟨g, k * 8 + 5, none⟩) (by simp; omega) (.slice x1 (ino t k).xs.length x2))
      obtain ⟨cs, hown⟩ := CV.out.own
      have cz := CV.out.at_ hlt 5 _ rfl
      have fz := CV.out.frozen (k * 8 + 5)
      have lz := CV.out.lt.2
      have OX := Lib.hid (own_kept OX0.out GW.out (fun b e => by injection e with e; subst e; exact own_apart hown OX0.out (by decide) rfl))
      have QE := Lib.hid (own_kept PE.out GW.out (fun b e => by injection e with e; subst e; exact own_apart hown PE.out (by decide) rfl))
      have QD := Lib.hid (own_kept PD.out GW.out (fun b e => by injection e with e; subst e; exact own_apart hown PD.out (by decide) rfl))
      have QA := Lib.hid (own_kept PA.out GW.out (fun b e => by injection e with e; subst e; exact own_apart hown PA.out (by decide) rfl))
      clear hown CV RV XV BV GW OX0 PE OE PD OD PA OA CT3 BT3 RT3 XT3
      go_wp2_with fail
      clear hlo HY HY9 cz fz lz
      have SZ := Lib.hid (RT4.out.lt)
      have RW4 := Lib.hid (show Rws (y4.setCell ⟨g, k * 8 + 5, none⟩ (.slice x1 (ino t k).xs.length x2)) (w.heap.size + 2) ⟨.slice e1 (ino t k).es.length e2, .slice d1 (ino t k).d.length d2, .slice a1 (ino t k).ac.length a2, .slice x1 (ino t k).xs.length x2⟩ (ino t k) from ⟨own_lower QE.out hlE.out, own_lower QD.out hlD.out, own_lower QA.out hlA.out, own_lower OX.out hlX.out⟩)
      have CT5 := Lib.hid (CT4.out.step (by rw [upd_same]; exact RW4.out) (fun j hj b hb => by
        rw [upd_other _ _ (by omega)] at hb
        rw [upd_same]
        intro he
        have h1 := (OLD.out j hj b hb).2
        have h2 := hloE.out b he
        omega))
      have SL2 := Lib.hid (fun j (h1 : k + 1 ≤ j) (h2 : j < t.length) => (upd_other sl ⟨.slice e1 (ino t k).es.length e2, .slice d1 (ino t k).d.length d2, .slice a1 (ino t k).ac.length a2, .slice x1 (ino t k).xs.length x2⟩ (show j ≠ k by omega)).trans (SL1.out j h1 h2))
      go_roundg (t.length - (k + 1))
      case measure => exact Nat.lt_of_lt_of_le hm9 hg
      case rel => exact ⟨k + 1, _, by omega, by omega, by go_num, CT5.out, SL2.out, BT4.out, RT4.out⟩
    · obtain rfl : k = t.length := by omega
      have hgt := CTk.out.done HF.out hl
      have hO := Lib.hid hgt
      obtain ⟨l9, a0, f0⟩ := RW.out
      go_wp2
      exact bodyPost_ret (v := .agg #[.slice (some ⟨g, 0, none⟩) t.length cap]) (by simp [results, Tryz.results32, go_sem, a0]) rfl ⟨g, cap, sl, rfl, (hO.out.low (p := ⟨w.heap.size + 1, 0, none⟩) (by simp) _).lower (by omega), BW.out.setCell (by simp) _⟩

end Go.Proofs.YtmbbmmnpkdfecaaGreatDoor
