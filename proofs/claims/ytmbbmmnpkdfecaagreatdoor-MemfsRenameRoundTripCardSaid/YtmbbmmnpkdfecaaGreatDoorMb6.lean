/- Package memfs and what it calls, at this seat's translation.
   Condition: as each theorem states; this text: AttrSet. -/
import Derived.Test.YtmbbmmnpkdfecaaGreatDoorMb5
import Derived.Deep.RegionHeld3

set_option linter.all false

/- xattr.Set at every list and attribute. Conditions: the slice's cells lie in memory as they read; the strings are of at most the model's longest length. -/

set_option linter.all false
namespace Go.Proofs.YtmbbmmnpkdfecaaGreatDoor
open Go.RowKit

theorem Ats.empty (w : World) (B : Nat) (a : Option Addr) (c : Nat) : Ats w B (.slice a 0 c) [] :=
  ⟨a, c, rfl, by simp, by simp, by simp, fun h => absurd h (by simp)⟩
theorem Ats.past {w : World} {B b o n c : Nat} {xs : List Attr} (h : Ats w B (.slice (some ⟨b, o, none⟩) n c) xs) {k : Nat} (_ : k ≤ n) (hc : c = k) : Ats w B (.slice (some ⟨b, o, none⟩) 0 0) (xs.drop k) := by
  obtain ⟨a', c', hv, hc', hl, hf, hx⟩ := h
  injection hv with h1 hn h2
  subst h1 h2 hn
  rw [List.drop_of_length_le (by omega)]
  exact Ats.empty _ _ _ _
def setF (xs : List Attr) (a : Attr) : Int × Int :=
  if (valA xs).1 = 0 then (if codeA a = 0 then (if 6 < (setL xs a).length then (14, 0) else (0, 0)) else (codeA a, -1)) else valA xs
def setO (xs : List Attr) (a : Attr) : List Attr := if (setF xs a).1 = 0 then setL xs a else []
def SetFPost (xs : List Attr) (a : Attr) (w : World) (e : Ending) (w' : World) : Prop :=
  ∃ v, e = .returned (.tuple #[v, faultV (setF xs a).1 (setF xs a).2]) ∧ (Ats w' w'.heap.size v (setO xs a) ∧ w'.ownsRow w.heap.size 28 2 v (setO xs a).length (flatA (setO xs a))) ∧ Below w.heap.size w w'
theorem set_bad {xs : List Attr} {a : Attr} {c i : Int} {w w' : World} (h : setF xs a = (c, i)) (hc : ¬ c = 0) (hb : Below w.heap.size w w') : SetFPost xs a w (.returned (.tuple #[.slice none 0 0, faultV c i])) w' := by
  refine ⟨_, by rw [h], ?_, hb⟩
  unfold setO; rw [h, if_neg hc]; exact ⟨Ats.none_ _ _, World.ownsRow_nil _ _ _ _⟩

set_option maxRecDepth 100000 in
set_option maxHeartbeats 4000000 in
theorem set_any (v : Value) (xs : List Attr) (x y : ByteArray) (w : World) (h : Ats w w.heap.size v xs) (hfa : (⟨x, y⟩ : Attr).fits) :
    Calls Tryz.prog 121 #[v, .agg #[.string x, .string y]] w (SetFPost xs ⟨x, y⟩ w) := by
  have HC := Lib.hid (fun W (hb : Below w.heap.size w W) => xvalidate_any v xs W (h.up hb))
  have HK := Lib.hid (fun W => checkAttr_any x y W hfa.1 hfa.2)
  have H := Lib.hid h
  have HFA := Lib.hid hfa
  obtain ⟨a, c, rfl, hcap⟩ := h.form rfl
  clear h hfa
  unfold valAV faultV at HC
  by_cases hv : (valA xs).1 = 0
  rotate_left
  · have HF := Lib.hid (show setF xs ⟨x, y⟩ = ((valA xs).1, (valA xs).2) by unfold setF; rw [if_neg hv])
    generalize (valA xs).1 = d at *
    generalize (valA xs).2 = i at *
    have hd1 : (d != 0) = true := by simpa using hv
    have hd2 : (d == 0) = false := by simpa using hv
    have HD := Lib.hid hv
    clear hv
    go_enter Tryz.func121, Tryz.ntmps121
    go_wp2_with fail
    refine (HC.out _ (((Below.refl _ _).alloc (Nat.le_refl _) _).alloc (by first | omega | (simp; done) | (simp; omega)) _)).mono ?_
    rintro e w1 ⟨rfl, b1⟩
    have X1 := ((FBox.new (w.alloc (.cells #[.string x, .string y] 28)) 0 0 37).below b1 (by first | omega | (simp; done) | (simp; omega))).at_ (n' := w.heap.size + 1) (by simp)
    have Z1 := ((AB.new w x y 28).alloc (.cells #[.int .i64 0, .int .i64 0] 37)).below b1 (by first | omega | (simp; done) | (simp; omega))
    have B1 : Below w.heap.size w w1 := (((Below.refl _ _).alloc (Nat.le_refl _) _).alloc (by first | omega | (simp; done) | (simp; omega)) _).trans (b1.mono (by first | omega | (simp; done) | (simp; omega)))
    have s1 := B1.size
    have l1 := X1.lt
    clear b1
    generalize hn1 : w.heap.size + 1 = n1 at *
    have q1 : w.heap.size ≤ n1 := by omega
    clear hn1
    obtain ⟨_, a0, a1, f0, f1⟩ := X1
    go_wp2
    go_region
    all_goals
      go_wp2
      refine bodyPost_ret (v := .tuple #[.slice none 0 0, faultV d i]) (by simp [results, Tryz.results121, faultV, go_sem, a0, a1, l1]; try rfl) rfl (set_bad HF.out HD.out ?_)
      have := B1.size
      repeat (first | exact B1 | refine Below.setCell ?_ (by first | omega | (simp; done) | (simp; omega)) _ | refine Below.alloc ?_ (by first | omega | (simp; done) | (simp; omega)) _ | refine Below.drew ?_)
  by_cases hk : codeA ⟨x, y⟩ = 0
  rotate_left
  · have HF := Lib.hid (show setF xs ⟨x, y⟩ = (codeA ⟨x, y⟩, -1) by unfold setF; rw [if_pos hv, if_neg hk])
    rw [valA_00 hv] at HC
    generalize codeA ⟨x, y⟩ = q at *
    have hd1 : (q != 0) = true := by simpa using hk
    have hd2 : (q == 0) = false := by simpa using hk
    have HD := Lib.hid hk
    clear hk hv
    go_enter Tryz.func121, Tryz.ntmps121
    go_wp2_with fail
    refine (HC.out _ (((Below.refl _ _).alloc (Nat.le_refl _) _).alloc (by first | omega | (simp; done) | (simp; omega)) _)).mono ?_
    rintro e w1 ⟨rfl, b1⟩
    have X1 := ((FBox.new (w.alloc (.cells #[.string x, .string y] 28)) 0 0 37).below b1 (by first | omega | (simp; done) | (simp; omega))).at_ (n' := w.heap.size + 1) (by simp)
    have Z1 := ((AB.new w x y 28).alloc (.cells #[.int .i64 0, .int .i64 0] 37)).below b1 (by first | omega | (simp; done) | (simp; omega))
    have B1 : Below w.heap.size w w1 := (((Below.refl _ _).alloc (Nat.le_refl _) _).alloc (by first | omega | (simp; done) | (simp; omega)) _).trans (b1.mono (by first | omega | (simp; done) | (simp; omega)))
    have s1 := B1.size
    have l1 := X1.lt
    clear b1
    generalize hn1 : w.heap.size + 1 = n1 at *
    have q1 : w.heap.size ≤ n1 := by omega
    clear hn1
    have z0 := Z1.c0
    have z1 := Z1.c1
    have zl := Z1.lt
    go_wp2_with fail
    refine (HK.out _).mono ?_
    rintro e w2 ⟨rfl, b2⟩
    have X2 := (X1.alloc (.cells #[.int .i64 0, .int .i64 0] 37)).below b2 (by first | omega | (simp; done) | (simp; omega))
    have Z2 := (Z1.alloc (.cells #[.int .i64 0, .int .i64 0] 37)).below b2 (by first | omega | (simp; done) | (simp; omega))
    have B2 : Below w.heap.size w w2 := (B1.alloc s1 _).trans (b2.mono (by first | omega | (simp; done) | (simp; omega)))
    have s2 := B2.size
    have l2 := X2.lt
    clear b2 X1 Z1 B1
    obtain ⟨_, a0, a1, f0, f1⟩ := X2
    go_wp2
    refine bodyPost_ret (v := .tuple #[.slice none 0 0, faultV q (-1)]) (by simp [results, Tryz.results121, faultV, go_sem, a0, a1]; try rfl) rfl (set_bad HF.out HD.out ?_)
    exact (B2.setCell (by first | omega | (simp; done) | (simp; omega)) _).setCell (by first | omega | (simp; done) | (simp; omega)) _
  have hg := good_of hv
  have hs : Srt xs := hg.srt
  have h6 := hg.len
  have HF := Lib.hid (show setF xs ⟨x, y⟩ = (if 6 < (setL xs ⟨x, y⟩).length then (14, 0) else (0, 0)) by unfold setF; rw [if_pos hv, if_pos hk])
  have HCUT := Lib.hid (setL_cut hs ⟨x, y⟩)
  have hle := lowB_le xs x
  have hfl := fun h => (fnd_iff (xs := xs) (nm := x)).1 h
  have HFI := Lib.hid (fun W (hb : Below w.heap.size w W) => find_any _ xs x W (H.out.up hb) hs)
  rw [valA_00 hv] at HC
  rw [hk] at HK
  clear hg hs hv hk
  simp only at HCUT
  generalize lowB xs x = p at *
  generalize hfq : fnd xs x = fq at *
  cases fq with
  | true =>
    have hpl := (hfl rfl).1
    rw [if_pos rfl] at HCUT
    clear hfl hfq
    have hin : ∃ b o, a = some ⟨b, o, none⟩ := by
      obtain ⟨a', c', hv', _, _, _, hx'⟩ := H.out
      injection hv' with e1 e2 e3
      obtain ⟨b, o, hb, _⟩ := hx' (by omega)
      exact ⟨b, o, by rw [e1, hb]⟩
    obtain ⟨b, o, rfl⟩ := hin
    go_enter Tryz.func121, Tryz.ntmps121
    go_wp2_with fail
    refine (HC.out _ (((Below.refl _ _).alloc (Nat.le_refl _) _).alloc (by first | omega | (simp; done) | (simp; omega)) _)).mono ?_
    rintro e w1 ⟨rfl, b1⟩
    have X1 := ((FBox.new (w.alloc (.cells #[.string x, .string y] 28)) 0 0 37).below b1 (by first | omega | (simp; done) | (simp; omega))).at_ (n' := w.heap.size + 1) (by simp)
    have Z1 := ((AB.new w x y 28).alloc (.cells #[.int .i64 0, .int .i64 0] 37)).below b1 (by first | omega | (simp; done) | (simp; omega))
    have B1 : Below w.heap.size w w1 := (((Below.refl _ _).alloc (Nat.le_refl _) _).alloc (by first | omega | (simp; done) | (simp; omega)) _).trans (b1.mono (by first | omega | (simp; done) | (simp; omega)))
    have s1 := B1.size
    have l1 := X1.lt
    clear b1
    generalize hn1 : w.heap.size + 1 = n1 at *
    have q1 : w.heap.size ≤ n1 := by omega
    clear hn1
    have z0 := Z1.c0
    have z1 := Z1.c1
    have zl := Z1.lt
    go_wp2_with fail
    refine (HK.out _).mono ?_
    rintro e w2 ⟨rfl, b2⟩
    have X2 := (X1.alloc (.cells #[.int .i64 0, .int .i64 0] 37)).below b2 (by first | omega | (simp; done) | (simp; omega))
    have Z2 := (Z1.alloc (.cells #[.int .i64 0, .int .i64 0] 37)).below b2 (by first | omega | (simp; done) | (simp; omega))
    have B2 : Below w.heap.size w w2 := (B1.alloc s1 _).trans (b2.mono (by first | omega | (simp; done) | (simp; omega)))
    have s2 := B2.size
    have l2 := X2.lt
    clear b2 X1 Z1 B1
    have z0 := Z2.c0
    have z1 := Z2.c1
    have zl := Z2.lt
    go_wp2_with fail
    refine (HFI.out _ B2).mono ?_
    rintro e w3 ⟨rfl, b3⟩
    have X3 := X2.below b3 X2.lt
    have Z3 := Z2.below b3 Z2.lt
    have B3 : Below w.heap.size w w3 := B2.trans (b3.mono B2.size)
    have s3 := B3.size
    have l3 := X3.lt
    clear b3 X2 Z2 B2 z0 z1 zl
    go_wp2_with fail
    obtain ⟨_, z0, z1⟩ := Z3
    have HP := Lib.hid (fun W => present_any x y W HFA.out)
    have i1 : (0 : Int) ≤ (p : Int) := Int.natCast_nonneg _
    have i2 : (p : Int) ≤ (c : Int) := by omega
    have i3 : (0 : Int) ≤ (p : Int) + 1 := by omega
    have i4 : (p : Int) + 1 ≤ (xs.length : Int) := by omega
    have i5 : (xs.length : Int) ≤ (c : Int) := by omega
    have i6 : ((p : Int) + 1).toNat = (p + 1) := by omega
    have hpl2 : p ≤ xs.length := by omega
    have hpl3 : (p + 1) ≤ xs.length := by omega
    have HFL := Lib.hid (show [xs.take p, presA ⟨x, y⟩, xs.drop (p + 1)].flatten.length ≤ 1000 from by rw [HCUT.out]; have := setL_len xs ⟨x, y⟩; omega)
    by_cases hce : c = (p + 1)
    · clear i2 i5
      have hpc := Ats.past (H.out) hpl3 hce
      have hce2 := hce.symm
      subst hce2
      have i2 : (p : Int) ≤ (p : Int) + 1 := by omega
      have i5 : (xs.length : Int) ≤ (p : Int) + 1 := by omega
      go_region_held3 (fun w' => w'.cell? ⟨w.heap.size, 0, none⟩ = some (.string x) ∧ w'.cell? ⟨w.heap.size, 1, none⟩ = some (.string y))
        (first | go_keep | exact ⟨k0, k1⟩ | exact ⟨j0, j1⟩)
        (first | (go_at_call 156; refine (HP.out _).mono ?_; rintro e w5 ⟨v5, rfl, A5, b5⟩; obtain ⟨a5, c5, rfl, _⟩ := A5.form rfl; have k0 := (b5.cell (p := ⟨w.heap.size, 0, none⟩) (by first | omega | (simp; done) | (simp; omega))).trans z0; have k1 := (b5.cell (p := ⟨w.heap.size, 1, none⟩) (by first | omega | (simp; done) | (simp; omega))).trans z1; have BW5 : Below w.heap.size w w5 := (by first | exact B3.drew.trans (b5.mono (by first | omega | (simp; done) | (simp; omega))) | exact B3.trans (b5.mono (by first | omega | (simp; done) | (simp; omega)))); have BX5 : Below w3.heap.size w3 w5 := (by first | exact (Below.refl _ _).drew.trans (b5.mono (by first | omega | (simp; done) | (simp; omega))) | exact b5); have s5 := BX5.size) | (go_at_call 155; refine (concat_any _ [.slice (some ⟨b, o, none⟩) p (p + 1), .slice a5 _ c5, _] [xs.take p, presA ⟨x, y⟩, xs.drop (p + 1)] _ ((ass_three w5 _ (by first | omega | (simp; done) | (simp; omega)) _ _ _ _ _ _ ((H.out.up BW5).cut hpl2) A5 (hpc.up BW5) _).more (by first | omega | (simp; done) | (simp; omega))) HFL.out).mono ?_; rintro e w6 ⟨v6, rfl, A6, b6⟩; rw [HCUT.out] at A6; obtain ⟨a6, c6, rfl, _⟩ := A6.form; have j0 := (b6.cell (p := ⟨w.heap.size, 0, none⟩) (by first | omega | (simp; done) | (simp; omega))).trans ((World.cell?_alloc_lt w5 _ _ (by first | omega | (simp; done) | (simp; omega))).trans k0); have j1 := (b6.cell (p := ⟨w.heap.size, 1, none⟩) (by first | omega | (simp; done) | (simp; omega))).trans ((World.cell?_alloc_lt w5 _ _ (by first | omega | (simp; done) | (simp; omega))).trans k1)))
      have X6 := (((X3.below BX5 X3.lt).alloc _).below b6 (by first | omega | (simp; done) | (simp; omega)))
      have B6 : Below w.heap.size w w6 := (BW5.alloc (by first | omega | (simp; done) | (simp; omega)) _).trans (b6.mono (by first | omega | (simp; done) | (simp; omega)))
      have s6 := B6.size
      have l6 := X6.lt
      clear b5 b6 BW5 BX5 A5 X3 B3 k0 k1 j0 j1 z0 z1 HP HFL HCUT
      obtain ⟨_, a0, a1, f0, f1⟩ := X6
      by_cases hl : 6 < (setL xs ⟨x, y⟩).length
      · rw [if_pos hl] at HF
        generalize (setL xs ⟨x, y⟩).length = m at *
        have hlz : (6 : Int) < (m : Int) := by omega
        go_wp2
        refine bodyPost_ret (v := .tuple #[.slice none 0 0, faultV 14 0]) (by simp [results, Tryz.results121, faultV, go_sem, a0, a1]; try rfl) rfl (set_bad HF.out (by omega) ?_)
        exact (B6.setCell (by first | omega | (simp; done) | (simp; omega)) _).setCell (by first | omega | (simp; done) | (simp; omega)) _
      · rw [if_neg hl] at HF
        have HA := Lib.hid A6
        clear A6
        have HA2 := Lib.hid ((HA.out.far (p := ⟨n1, 0, none⟩) (by first | omega | (simp; done) | (simp; omega)) (.int .i64 0)).far (p := ⟨n1, 1, none⟩) (by first | omega | (simp; done) | (simp; omega)) (.int .i64 0))
        clear HA
        generalize hm : (setL xs ⟨x, y⟩).length = m at *
        have hlz : decide ((6 : Int) < (m : Int)) = false := by simp; omega
        go_wp2
        refine bodyPost_ret (v := .tuple #[.slice a6 m c6, faultV 0 0]) (by simp [results, Tryz.results121, faultV, go_sem, a0, a1]; try rfl) rfl ⟨_, by rw [HF.out], ?_, (B6.setCell (by first | omega | (simp; done) | (simp; omega)) _).setCell (by first | omega | (simp; done) | (simp; omega)) _⟩
        have e : setO xs ⟨x, y⟩ = setL xs ⟨x, y⟩ := by unfold setO; rw [HF.out, if_pos rfl]
        rw [e]
        exact ⟨HA2.out.ats, HA2.out.row (by first | omega | (simp; done) | (simp; omega))⟩
    · go_region_held3 (fun w' => w'.cell? ⟨w.heap.size, 0, none⟩ = some (.string x) ∧ w'.cell? ⟨w.heap.size, 1, none⟩ = some (.string y))
        (first | go_keep | exact ⟨k0, k1⟩ | exact ⟨j0, j1⟩)
        (first | (go_at_call 156; refine (HP.out _).mono ?_; rintro e w5 ⟨v5, rfl, A5, b5⟩; obtain ⟨a5, c5, rfl, _⟩ := A5.form rfl; have k0 := (b5.cell (p := ⟨w.heap.size, 0, none⟩) (by first | omega | (simp; done) | (simp; omega))).trans z0; have k1 := (b5.cell (p := ⟨w.heap.size, 1, none⟩) (by first | omega | (simp; done) | (simp; omega))).trans z1; have BW5 : Below w.heap.size w w5 := (by first | exact B3.drew.trans (b5.mono (by first | omega | (simp; done) | (simp; omega))) | exact B3.trans (b5.mono (by first | omega | (simp; done) | (simp; omega)))); have BX5 : Below w3.heap.size w3 w5 := (by first | exact (Below.refl _ _).drew.trans (b5.mono (by first | omega | (simp; done) | (simp; omega))) | exact b5); have s5 := BX5.size) | (go_at_call 155; refine (concat_any _ [.slice (some ⟨b, o, none⟩) p c, .slice a5 _ c5, _] [xs.take p, presA ⟨x, y⟩, xs.drop (p + 1)] _ ((ass_three w5 _ (by first | omega | (simp; done) | (simp; omega)) _ _ _ _ _ _ ((H.out.up BW5).cut hpl2) A5 ((H.out.up BW5).from_ hpl3) _).more (by first | omega | (simp; done) | (simp; omega))) HFL.out).mono ?_; rintro e w6 ⟨v6, rfl, A6, b6⟩; rw [HCUT.out] at A6; obtain ⟨a6, c6, rfl, _⟩ := A6.form; have j0 := (b6.cell (p := ⟨w.heap.size, 0, none⟩) (by first | omega | (simp; done) | (simp; omega))).trans ((World.cell?_alloc_lt w5 _ _ (by first | omega | (simp; done) | (simp; omega))).trans k0); have j1 := (b6.cell (p := ⟨w.heap.size, 1, none⟩) (by first | omega | (simp; done) | (simp; omega))).trans ((World.cell?_alloc_lt w5 _ _ (by first | omega | (simp; done) | (simp; omega))).trans k1)))
      have X6 := (((X3.below BX5 X3.lt).alloc _).below b6 (by first | omega | (simp; done) | (simp; omega)))
      have B6 : Below w.heap.size w w6 := (BW5.alloc (by first | omega | (simp; done) | (simp; omega)) _).trans (b6.mono (by first | omega | (simp; done) | (simp; omega)))
      have s6 := B6.size
      have l6 := X6.lt
      clear b5 b6 BW5 BX5 A5 X3 B3 k0 k1 j0 j1 z0 z1 HP HFL HCUT
      obtain ⟨_, a0, a1, f0, f1⟩ := X6
      by_cases hl : 6 < (setL xs ⟨x, y⟩).length
      · rw [if_pos hl] at HF
        generalize (setL xs ⟨x, y⟩).length = m at *
        have hlz : (6 : Int) < (m : Int) := by omega
        go_wp2
        refine bodyPost_ret (v := .tuple #[.slice none 0 0, faultV 14 0]) (by simp [results, Tryz.results121, faultV, go_sem, a0, a1]; try rfl) rfl (set_bad HF.out (by omega) ?_)
        exact (B6.setCell (by first | omega | (simp; done) | (simp; omega)) _).setCell (by first | omega | (simp; done) | (simp; omega)) _
      · rw [if_neg hl] at HF
        have HA := Lib.hid A6
        clear A6
        have HA2 := Lib.hid ((HA.out.far (p := ⟨n1, 0, none⟩) (by first | omega | (simp; done) | (simp; omega)) (.int .i64 0)).far (p := ⟨n1, 1, none⟩) (by first | omega | (simp; done) | (simp; omega)) (.int .i64 0))
        clear HA
        generalize hm : (setL xs ⟨x, y⟩).length = m at *
        have hlz : decide ((6 : Int) < (m : Int)) = false := by simp; omega
        go_wp2
        refine bodyPost_ret (v := .tuple #[.slice a6 m c6, faultV 0 0]) (by simp [results, Tryz.results121, faultV, go_sem, a0, a1]; try rfl) rfl ⟨_, by rw [HF.out], ?_, (B6.setCell (by first | omega | (simp; done) | (simp; omega)) _).setCell (by first | omega | (simp; done) | (simp; omega)) _⟩
        have e : setO xs ⟨x, y⟩ = setL xs ⟨x, y⟩ := by unfold setO; rw [HF.out, if_pos rfl]
        rw [e]
        exact ⟨HA2.out.ats, HA2.out.row (by first | omega | (simp; done) | (simp; omega))⟩
  | false =>
    rw [if_neg (by simp)] at HCUT
    clear hfl hfq
    by_cases hx0 : xs.length = 0
    · obtain rfl : xs = [] := List.eq_nil_of_length_eq_zero hx0
      obtain rfl : p = 0 := by simpa using hle
      have HFL := Lib.hid (show [([] : List Attr), presA ⟨x, y⟩, []].flatten.length ≤ 1000 from by have := presA_len ⟨x, y⟩; simp; omega)
      have HCUT : Hid ([([] : List Attr), presA ⟨x, y⟩, []].flatten = setL [] ⟨x, y⟩) := Lib.hid (by have := HCUT.out; simpa using this)
      have i1 : (0 : Int) ≤ (c : Int) := Int.natCast_nonneg _
      cases a with
      | none =>
        go_enter Tryz.func121, Tryz.ntmps121
        go_wp2_with fail
        refine (HC.out _ (((Below.refl _ _).alloc (Nat.le_refl _) _).alloc (by first | omega | (simp; done) | (simp; omega)) _)).mono ?_
        rintro e w1 ⟨rfl, b1⟩
        have X1 := ((FBox.new (w.alloc (.cells #[.string x, .string y] 28)) 0 0 37).below b1 (by first | omega | (simp; done) | (simp; omega))).at_ (n' := w.heap.size + 1) (by simp)
        have Z1 := ((AB.new w x y 28).alloc (.cells #[.int .i64 0, .int .i64 0] 37)).below b1 (by first | omega | (simp; done) | (simp; omega))
        have B1 : Below w.heap.size w w1 := (((Below.refl _ _).alloc (Nat.le_refl _) _).alloc (by first | omega | (simp; done) | (simp; omega)) _).trans (b1.mono (by first | omega | (simp; done) | (simp; omega)))
        have s1 := B1.size
        have l1 := X1.lt
        clear b1
        generalize hn1 : w.heap.size + 1 = n1 at *
        have q1 : w.heap.size ≤ n1 := by omega
        clear hn1
        have z0 := Z1.c0
        have z1 := Z1.c1
        have zl := Z1.lt
        go_wp2_with fail
        refine (HK.out _).mono ?_
        rintro e w2 ⟨rfl, b2⟩
        have X2 := (X1.alloc (.cells #[.int .i64 0, .int .i64 0] 37)).below b2 (by first | omega | (simp; done) | (simp; omega))
        have Z2 := (Z1.alloc (.cells #[.int .i64 0, .int .i64 0] 37)).below b2 (by first | omega | (simp; done) | (simp; omega))
        have B2 : Below w.heap.size w w2 := (B1.alloc s1 _).trans (b2.mono (by first | omega | (simp; done) | (simp; omega)))
        have s2 := B2.size
        have l2 := X2.lt
        clear b2 X1 Z1 B1
        have z0 := Z2.c0
        have z1 := Z2.c1
        have zl := Z2.lt
        go_wp2_with fail
        refine (HFI.out _ B2).mono ?_
        rintro e w3 ⟨rfl, b3⟩
        have X3 := X2.below b3 X2.lt
        have Z3 := Z2.below b3 Z2.lt
        have B3 : Below w.heap.size w w3 := B2.trans (b3.mono B2.size)
        have s3 := B3.size
        have l3 := X3.lt
        clear b3 X2 Z2 B2 z0 z1 zl
        go_wp2_with fail
        obtain ⟨_, z0, z1⟩ := Z3
        have HP := Lib.hid (fun W => present_any x y W HFA.out)
        go_region_held3 (fun w' => w'.cell? ⟨w.heap.size, 0, none⟩ = some (.string x) ∧ w'.cell? ⟨w.heap.size, 1, none⟩ = some (.string y))
          (first | go_keep | exact ⟨k0, k1⟩ | exact ⟨j0, j1⟩)
          (first | (go_at_call 156; refine (HP.out _).mono ?_; rintro e w5 ⟨v5, rfl, A5, b5⟩; obtain ⟨a5, c5, rfl, _⟩ := A5.form rfl; have k0 := (b5.cell (p := ⟨w.heap.size, 0, none⟩) (by first | omega | (simp; done) | (simp; omega))).trans z0; have k1 := (b5.cell (p := ⟨w.heap.size, 1, none⟩) (by first | omega | (simp; done) | (simp; omega))).trans z1; have BW5 : Below w.heap.size w w5 := (by first | exact B3.drew.trans (b5.mono (by first | omega | (simp; done) | (simp; omega))) | exact B3.trans (b5.mono (by first | omega | (simp; done) | (simp; omega)))); have BX5 : Below w3.heap.size w3 w5 := (by first | exact (Below.refl _ _).drew.trans (b5.mono (by first | omega | (simp; done) | (simp; omega))) | exact b5); have s5 := BX5.size) | (go_at_call 155; refine (concat_any _ [_, .slice a5 _ c5, _] [[], presA ⟨x, y⟩, []] _ ((ass_three w5 _ (by first | omega | (simp; done) | (simp; omega)) _ _ _ _ _ _ (Ats.empty _ _ _ _) A5 (Ats.empty _ _ _ _) _).more (by first | omega | (simp; done) | (simp; omega))) HFL.out).mono ?_; rintro e w6 ⟨v6, rfl, A6, b6⟩; rw [HCUT.out] at A6; obtain ⟨a6, c6, rfl, _⟩ := A6.form; have j0 := (b6.cell (p := ⟨w.heap.size, 0, none⟩) (by first | omega | (simp; done) | (simp; omega))).trans ((World.cell?_alloc_lt w5 _ _ (by first | omega | (simp; done) | (simp; omega))).trans k0); have j1 := (b6.cell (p := ⟨w.heap.size, 1, none⟩) (by first | omega | (simp; done) | (simp; omega))).trans ((World.cell?_alloc_lt w5 _ _ (by first | omega | (simp; done) | (simp; omega))).trans k1)))
        have X6 := (((X3.below BX5 X3.lt).alloc _).below b6 (by first | omega | (simp; done) | (simp; omega)))
        have B6 : Below w.heap.size w w6 := (BW5.alloc (by first | omega | (simp; done) | (simp; omega)) _).trans (b6.mono (by first | omega | (simp; done) | (simp; omega)))
        have s6 := B6.size
        have l6 := X6.lt
        clear b5 b6 BW5 BX5 A5 X3 B3 k0 k1 j0 j1 z0 z1 HP HFL HCUT
        obtain ⟨_, a0, a1, f0, f1⟩ := X6
        by_cases hl : 6 < (setL [] ⟨x, y⟩).length
        · rw [if_pos hl] at HF
          generalize (setL [] ⟨x, y⟩).length = m at *
          have hlz : (6 : Int) < (m : Int) := by omega
          go_wp2
          refine bodyPost_ret (v := .tuple #[.slice none 0 0, faultV 14 0]) (by simp [results, Tryz.results121, faultV, go_sem, a0, a1]; try rfl) rfl (set_bad HF.out (by omega) ?_)
          exact (B6.setCell (by first | omega | (simp; done) | (simp; omega)) _).setCell (by first | omega | (simp; done) | (simp; omega)) _
        · rw [if_neg hl] at HF
          have HA := Lib.hid A6
          clear A6
          have HA2 := Lib.hid ((HA.out.far (p := ⟨n1, 0, none⟩) (by first | omega | (simp; done) | (simp; omega)) (.int .i64 0)).far (p := ⟨n1, 1, none⟩) (by first | omega | (simp; done) | (simp; omega)) (.int .i64 0))
          clear HA
          generalize hm : (setL [] ⟨x, y⟩).length = m at *
          have hlz : decide ((6 : Int) < (m : Int)) = false := by simp; omega
          go_wp2
          refine bodyPost_ret (v := .tuple #[.slice a6 m c6, faultV 0 0]) (by simp [results, Tryz.results121, faultV, go_sem, a0, a1]; try rfl) rfl ⟨_, by rw [HF.out], ?_, (B6.setCell (by first | omega | (simp; done) | (simp; omega)) _).setCell (by first | omega | (simp; done) | (simp; omega)) _⟩
          have e : setO [] ⟨x, y⟩ = setL [] ⟨x, y⟩ := by unfold setO; rw [HF.out, if_pos rfl]
          rw [e]
          exact ⟨HA2.out.ats, HA2.out.row (by first | omega | (simp; done) | (simp; omega))⟩
      | some ad =>
        by_cases hce : c = 0
        · subst hce
          go_enter Tryz.func121, Tryz.ntmps121
          go_wp2_with fail
          refine (HC.out _ (((Below.refl _ _).alloc (Nat.le_refl _) _).alloc (by first | omega | (simp; done) | (simp; omega)) _)).mono ?_
          rintro e w1 ⟨rfl, b1⟩
          have X1 := ((FBox.new (w.alloc (.cells #[.string x, .string y] 28)) 0 0 37).below b1 (by first | omega | (simp; done) | (simp; omega))).at_ (n' := w.heap.size + 1) (by simp)
          have Z1 := ((AB.new w x y 28).alloc (.cells #[.int .i64 0, .int .i64 0] 37)).below b1 (by first | omega | (simp; done) | (simp; omega))
          have B1 : Below w.heap.size w w1 := (((Below.refl _ _).alloc (Nat.le_refl _) _).alloc (by first | omega | (simp; done) | (simp; omega)) _).trans (b1.mono (by first | omega | (simp; done) | (simp; omega)))
          have s1 := B1.size
          have l1 := X1.lt
          clear b1
          generalize hn1 : w.heap.size + 1 = n1 at *
          have q1 : w.heap.size ≤ n1 := by omega
          clear hn1
          have z0 := Z1.c0
          have z1 := Z1.c1
          have zl := Z1.lt
          go_wp2_with fail
          refine (HK.out _).mono ?_
          rintro e w2 ⟨rfl, b2⟩
          have X2 := (X1.alloc (.cells #[.int .i64 0, .int .i64 0] 37)).below b2 (by first | omega | (simp; done) | (simp; omega))
          have Z2 := (Z1.alloc (.cells #[.int .i64 0, .int .i64 0] 37)).below b2 (by first | omega | (simp; done) | (simp; omega))
          have B2 : Below w.heap.size w w2 := (B1.alloc s1 _).trans (b2.mono (by first | omega | (simp; done) | (simp; omega)))
          have s2 := B2.size
          have l2 := X2.lt
          clear b2 X1 Z1 B1
          have z0 := Z2.c0
          have z1 := Z2.c1
          have zl := Z2.lt
          go_wp2_with fail
          refine (HFI.out _ B2).mono ?_
          rintro e w3 ⟨rfl, b3⟩
          have X3 := X2.below b3 X2.lt
          have Z3 := Z2.below b3 Z2.lt
          have B3 : Below w.heap.size w w3 := B2.trans (b3.mono B2.size)
          have s3 := B3.size
          have l3 := X3.lt
          clear b3 X2 Z2 B2 z0 z1 zl
          go_wp2_with fail
          obtain ⟨_, z0, z1⟩ := Z3
          have HP := Lib.hid (fun W => present_any x y W HFA.out)
          go_region_held3 (fun w' => w'.cell? ⟨w.heap.size, 0, none⟩ = some (.string x) ∧ w'.cell? ⟨w.heap.size, 1, none⟩ = some (.string y))
            (first | go_keep | exact ⟨k0, k1⟩ | exact ⟨j0, j1⟩)
            (first | (go_at_call 156; refine (HP.out _).mono ?_; rintro e w5 ⟨v5, rfl, A5, b5⟩; obtain ⟨a5, c5, rfl, _⟩ := A5.form rfl; have k0 := (b5.cell (p := ⟨w.heap.size, 0, none⟩) (by first | omega | (simp; done) | (simp; omega))).trans z0; have k1 := (b5.cell (p := ⟨w.heap.size, 1, none⟩) (by first | omega | (simp; done) | (simp; omega))).trans z1; have BW5 : Below w.heap.size w w5 := (by first | exact B3.drew.trans (b5.mono (by first | omega | (simp; done) | (simp; omega))) | exact B3.trans (b5.mono (by first | omega | (simp; done) | (simp; omega)))); have BX5 : Below w3.heap.size w3 w5 := (by first | exact (Below.refl _ _).drew.trans (b5.mono (by first | omega | (simp; done) | (simp; omega))) | exact b5); have s5 := BX5.size) | (go_at_call 155; refine (concat_any _ [_, .slice a5 _ c5, _] [[], presA ⟨x, y⟩, []] _ ((ass_three w5 _ (by first | omega | (simp; done) | (simp; omega)) _ _ _ _ _ _ (Ats.empty _ _ _ _) A5 (Ats.empty _ _ _ _) _).more (by first | omega | (simp; done) | (simp; omega))) HFL.out).mono ?_; rintro e w6 ⟨v6, rfl, A6, b6⟩; rw [HCUT.out] at A6; obtain ⟨a6, c6, rfl, _⟩ := A6.form; have j0 := (b6.cell (p := ⟨w.heap.size, 0, none⟩) (by first | omega | (simp; done) | (simp; omega))).trans ((World.cell?_alloc_lt w5 _ _ (by first | omega | (simp; done) | (simp; omega))).trans k0); have j1 := (b6.cell (p := ⟨w.heap.size, 1, none⟩) (by first | omega | (simp; done) | (simp; omega))).trans ((World.cell?_alloc_lt w5 _ _ (by first | omega | (simp; done) | (simp; omega))).trans k1)))
          have X6 := (((X3.below BX5 X3.lt).alloc _).below b6 (by first | omega | (simp; done) | (simp; omega)))
          have B6 : Below w.heap.size w w6 := (BW5.alloc (by first | omega | (simp; done) | (simp; omega)) _).trans (b6.mono (by first | omega | (simp; done) | (simp; omega)))
          have s6 := B6.size
          have l6 := X6.lt
          clear b5 b6 BW5 BX5 A5 X3 B3 k0 k1 j0 j1 z0 z1 HP HFL HCUT
          obtain ⟨_, a0, a1, f0, f1⟩ := X6
          by_cases hl : 6 < (setL [] ⟨x, y⟩).length
          · rw [if_pos hl] at HF
            generalize (setL [] ⟨x, y⟩).length = m at *
            have hlz : (6 : Int) < (m : Int) := by omega
            go_wp2
            refine bodyPost_ret (v := .tuple #[.slice none 0 0, faultV 14 0]) (by simp [results, Tryz.results121, faultV, go_sem, a0, a1]; try rfl) rfl (set_bad HF.out (by omega) ?_)
            exact (B6.setCell (by first | omega | (simp; done) | (simp; omega)) _).setCell (by first | omega | (simp; done) | (simp; omega)) _
          · rw [if_neg hl] at HF
            have HA := Lib.hid A6
            clear A6
            have HA2 := Lib.hid ((HA.out.far (p := ⟨n1, 0, none⟩) (by first | omega | (simp; done) | (simp; omega)) (.int .i64 0)).far (p := ⟨n1, 1, none⟩) (by first | omega | (simp; done) | (simp; omega)) (.int .i64 0))
            clear HA
            generalize hm : (setL [] ⟨x, y⟩).length = m at *
            have hlz : decide ((6 : Int) < (m : Int)) = false := by simp; omega
            go_wp2
            refine bodyPost_ret (v := .tuple #[.slice a6 m c6, faultV 0 0]) (by simp [results, Tryz.results121, faultV, go_sem, a0, a1]; try rfl) rfl ⟨_, by rw [HF.out], ?_, (B6.setCell (by first | omega | (simp; done) | (simp; omega)) _).setCell (by first | omega | (simp; done) | (simp; omega)) _⟩
            have e : setO [] ⟨x, y⟩ = setL [] ⟨x, y⟩ := by unfold setO; rw [HF.out, if_pos rfl]
            rw [e]
            exact ⟨HA2.out.ats, HA2.out.row (by first | omega | (simp; done) | (simp; omega))⟩
        · go_enter Tryz.func121, Tryz.ntmps121
          go_wp2_with fail
          refine (HC.out _ (((Below.refl _ _).alloc (Nat.le_refl _) _).alloc (by first | omega | (simp; done) | (simp; omega)) _)).mono ?_
          rintro e w1 ⟨rfl, b1⟩
          have X1 := ((FBox.new (w.alloc (.cells #[.string x, .string y] 28)) 0 0 37).below b1 (by first | omega | (simp; done) | (simp; omega))).at_ (n' := w.heap.size + 1) (by simp)
          have Z1 := ((AB.new w x y 28).alloc (.cells #[.int .i64 0, .int .i64 0] 37)).below b1 (by first | omega | (simp; done) | (simp; omega))
          have B1 : Below w.heap.size w w1 := (((Below.refl _ _).alloc (Nat.le_refl _) _).alloc (by first | omega | (simp; done) | (simp; omega)) _).trans (b1.mono (by first | omega | (simp; done) | (simp; omega)))
          have s1 := B1.size
          have l1 := X1.lt
          clear b1
          generalize hn1 : w.heap.size + 1 = n1 at *
          have q1 : w.heap.size ≤ n1 := by omega
          clear hn1
          have z0 := Z1.c0
          have z1 := Z1.c1
          have zl := Z1.lt
          go_wp2_with fail
          refine (HK.out _).mono ?_
          rintro e w2 ⟨rfl, b2⟩
          have X2 := (X1.alloc (.cells #[.int .i64 0, .int .i64 0] 37)).below b2 (by first | omega | (simp; done) | (simp; omega))
          have Z2 := (Z1.alloc (.cells #[.int .i64 0, .int .i64 0] 37)).below b2 (by first | omega | (simp; done) | (simp; omega))
          have B2 : Below w.heap.size w w2 := (B1.alloc s1 _).trans (b2.mono (by first | omega | (simp; done) | (simp; omega)))
          have s2 := B2.size
          have l2 := X2.lt
          clear b2 X1 Z1 B1
          have z0 := Z2.c0
          have z1 := Z2.c1
          have zl := Z2.lt
          go_wp2_with fail
          refine (HFI.out _ B2).mono ?_
          rintro e w3 ⟨rfl, b3⟩
          have X3 := X2.below b3 X2.lt
          have Z3 := Z2.below b3 Z2.lt
          have B3 : Below w.heap.size w w3 := B2.trans (b3.mono B2.size)
          have s3 := B3.size
          have l3 := X3.lt
          clear b3 X2 Z2 B2 z0 z1 zl
          go_wp2_with fail
          obtain ⟨_, z0, z1⟩ := Z3
          have HP := Lib.hid (fun W => present_any x y W HFA.out)
          go_region_held3 (fun w' => w'.cell? ⟨w.heap.size, 0, none⟩ = some (.string x) ∧ w'.cell? ⟨w.heap.size, 1, none⟩ = some (.string y))
            (first | go_keep | exact ⟨k0, k1⟩ | exact ⟨j0, j1⟩)
            (first | (go_at_call 156; refine (HP.out _).mono ?_; rintro e w5 ⟨v5, rfl, A5, b5⟩; obtain ⟨a5, c5, rfl, _⟩ := A5.form rfl; have k0 := (b5.cell (p := ⟨w.heap.size, 0, none⟩) (by first | omega | (simp; done) | (simp; omega))).trans z0; have k1 := (b5.cell (p := ⟨w.heap.size, 1, none⟩) (by first | omega | (simp; done) | (simp; omega))).trans z1; have BW5 : Below w.heap.size w w5 := (by first | exact B3.drew.trans (b5.mono (by first | omega | (simp; done) | (simp; omega))) | exact B3.trans (b5.mono (by first | omega | (simp; done) | (simp; omega)))); have BX5 : Below w3.heap.size w3 w5 := (by first | exact (Below.refl _ _).drew.trans (b5.mono (by first | omega | (simp; done) | (simp; omega))) | exact b5); have s5 := BX5.size) | (go_at_call 155; refine (concat_any _ [_, .slice a5 _ c5, _] [[], presA ⟨x, y⟩, []] _ ((ass_three w5 _ (by first | omega | (simp; done) | (simp; omega)) _ _ _ _ _ _ (Ats.empty _ _ _ _) A5 (Ats.empty _ _ _ _) _).more (by first | omega | (simp; done) | (simp; omega))) HFL.out).mono ?_; rintro e w6 ⟨v6, rfl, A6, b6⟩; rw [HCUT.out] at A6; obtain ⟨a6, c6, rfl, _⟩ := A6.form; have j0 := (b6.cell (p := ⟨w.heap.size, 0, none⟩) (by first | omega | (simp; done) | (simp; omega))).trans ((World.cell?_alloc_lt w5 _ _ (by first | omega | (simp; done) | (simp; omega))).trans k0); have j1 := (b6.cell (p := ⟨w.heap.size, 1, none⟩) (by first | omega | (simp; done) | (simp; omega))).trans ((World.cell?_alloc_lt w5 _ _ (by first | omega | (simp; done) | (simp; omega))).trans k1)))
          have X6 := (((X3.below BX5 X3.lt).alloc _).below b6 (by first | omega | (simp; done) | (simp; omega)))
          have B6 : Below w.heap.size w w6 := (BW5.alloc (by first | omega | (simp; done) | (simp; omega)) _).trans (b6.mono (by first | omega | (simp; done) | (simp; omega)))
          have s6 := B6.size
          have l6 := X6.lt
          clear b5 b6 BW5 BX5 A5 X3 B3 k0 k1 j0 j1 z0 z1 HP HFL HCUT
          obtain ⟨_, a0, a1, f0, f1⟩ := X6
          by_cases hl : 6 < (setL [] ⟨x, y⟩).length
          · rw [if_pos hl] at HF
            generalize (setL [] ⟨x, y⟩).length = m at *
            have hlz : (6 : Int) < (m : Int) := by omega
            go_wp2
            refine bodyPost_ret (v := .tuple #[.slice none 0 0, faultV 14 0]) (by simp [results, Tryz.results121, faultV, go_sem, a0, a1]; try rfl) rfl (set_bad HF.out (by omega) ?_)
            exact (B6.setCell (by first | omega | (simp; done) | (simp; omega)) _).setCell (by first | omega | (simp; done) | (simp; omega)) _
          · rw [if_neg hl] at HF
            have HA := Lib.hid A6
            clear A6
            have HA2 := Lib.hid ((HA.out.far (p := ⟨n1, 0, none⟩) (by first | omega | (simp; done) | (simp; omega)) (.int .i64 0)).far (p := ⟨n1, 1, none⟩) (by first | omega | (simp; done) | (simp; omega)) (.int .i64 0))
            clear HA
            generalize hm : (setL [] ⟨x, y⟩).length = m at *
            have hlz : decide ((6 : Int) < (m : Int)) = false := by simp; omega
            go_wp2
            refine bodyPost_ret (v := .tuple #[.slice a6 m c6, faultV 0 0]) (by simp [results, Tryz.results121, faultV, go_sem, a0, a1]; try rfl) rfl ⟨_, by rw [HF.out], ?_, (B6.setCell (by first | omega | (simp; done) | (simp; omega)) _).setCell (by first | omega | (simp; done) | (simp; omega)) _⟩
            have e : setO [] ⟨x, y⟩ = setL [] ⟨x, y⟩ := by unfold setO; rw [HF.out, if_pos rfl]
            rw [e]
            exact ⟨HA2.out.ats, HA2.out.row (by first | omega | (simp; done) | (simp; omega))⟩
    · have hin : ∃ b o, a = some ⟨b, o, none⟩ := by
        obtain ⟨a', c', hv', _, _, _, hx'⟩ := H.out
        injection hv' with e1 e2 e3
        obtain ⟨b, o, hb, _⟩ := hx' (by omega)
        exact ⟨b, o, by rw [e1, hb]⟩
      obtain ⟨b, o, rfl⟩ := hin
      go_enter Tryz.func121, Tryz.ntmps121
      go_wp2_with fail
      refine (HC.out _ (((Below.refl _ _).alloc (Nat.le_refl _) _).alloc (by first | omega | (simp; done) | (simp; omega)) _)).mono ?_
      rintro e w1 ⟨rfl, b1⟩
      have X1 := ((FBox.new (w.alloc (.cells #[.string x, .string y] 28)) 0 0 37).below b1 (by first | omega | (simp; done) | (simp; omega))).at_ (n' := w.heap.size + 1) (by simp)
      have Z1 := ((AB.new w x y 28).alloc (.cells #[.int .i64 0, .int .i64 0] 37)).below b1 (by first | omega | (simp; done) | (simp; omega))
      have B1 : Below w.heap.size w w1 := (((Below.refl _ _).alloc (Nat.le_refl _) _).alloc (by first | omega | (simp; done) | (simp; omega)) _).trans (b1.mono (by first | omega | (simp; done) | (simp; omega)))
      have s1 := B1.size
      have l1 := X1.lt
      clear b1
      generalize hn1 : w.heap.size + 1 = n1 at *
      have q1 : w.heap.size ≤ n1 := by omega
      clear hn1
      have z0 := Z1.c0
      have z1 := Z1.c1
      have zl := Z1.lt
      go_wp2_with fail
      refine (HK.out _).mono ?_
      rintro e w2 ⟨rfl, b2⟩
      have X2 := (X1.alloc (.cells #[.int .i64 0, .int .i64 0] 37)).below b2 (by first | omega | (simp; done) | (simp; omega))
      have Z2 := (Z1.alloc (.cells #[.int .i64 0, .int .i64 0] 37)).below b2 (by first | omega | (simp; done) | (simp; omega))
      have B2 : Below w.heap.size w w2 := (B1.alloc s1 _).trans (b2.mono (by first | omega | (simp; done) | (simp; omega)))
      have s2 := B2.size
      have l2 := X2.lt
      clear b2 X1 Z1 B1
      have z0 := Z2.c0
      have z1 := Z2.c1
      have zl := Z2.lt
      go_wp2_with fail
      refine (HFI.out _ B2).mono ?_
      rintro e w3 ⟨rfl, b3⟩
      have X3 := X2.below b3 X2.lt
      have Z3 := Z2.below b3 Z2.lt
      have B3 : Below w.heap.size w w3 := B2.trans (b3.mono B2.size)
      have s3 := B3.size
      have l3 := X3.lt
      clear b3 X2 Z2 B2 z0 z1 zl
      go_wp2_with fail
      obtain ⟨_, z0, z1⟩ := Z3
      have HP := Lib.hid (fun W => present_any x y W HFA.out)
      have i1 : (0 : Int) ≤ (p : Int) := Int.natCast_nonneg _
      have i2 : (p : Int) ≤ (c : Int) := by omega
      have i3 : (0 : Int) ≤ (p : Int) := by omega
      have i4 : (p : Int) ≤ (xs.length : Int) := by omega
      have i5 : (xs.length : Int) ≤ (c : Int) := by omega
      have i6 : ((p : Int)).toNat = p := by omega
      have hpl2 : p ≤ xs.length := by omega
      have hpl3 : p ≤ xs.length := by omega
      have HFL := Lib.hid (show [xs.take p, presA ⟨x, y⟩, xs.drop p].flatten.length ≤ 1000 from by rw [HCUT.out]; have := setL_len xs ⟨x, y⟩; omega)
      by_cases hce : c = p
      · clear i2 i5
        have hpc := Ats.past (H.out) hpl3 hce
        have hce2 := hce.symm
        subst hce2
        have i2 : (p : Int) ≤ (p : Int) := by omega
        have i5 : (xs.length : Int) ≤ (p : Int) := by omega
        go_region_held3 (fun w' => w'.cell? ⟨w.heap.size, 0, none⟩ = some (.string x) ∧ w'.cell? ⟨w.heap.size, 1, none⟩ = some (.string y))
          (first | go_keep | exact ⟨k0, k1⟩ | exact ⟨j0, j1⟩)
          (first | (go_at_call 156; refine (HP.out _).mono ?_; rintro e w5 ⟨v5, rfl, A5, b5⟩; obtain ⟨a5, c5, rfl, _⟩ := A5.form rfl; have k0 := (b5.cell (p := ⟨w.heap.size, 0, none⟩) (by first | omega | (simp; done) | (simp; omega))).trans z0; have k1 := (b5.cell (p := ⟨w.heap.size, 1, none⟩) (by first | omega | (simp; done) | (simp; omega))).trans z1; have BW5 : Below w.heap.size w w5 := (by first | exact B3.drew.trans (b5.mono (by first | omega | (simp; done) | (simp; omega))) | exact B3.trans (b5.mono (by first | omega | (simp; done) | (simp; omega)))); have BX5 : Below w3.heap.size w3 w5 := (by first | exact (Below.refl _ _).drew.trans (b5.mono (by first | omega | (simp; done) | (simp; omega))) | exact b5); have s5 := BX5.size) | (go_at_call 155; refine (concat_any _ [.slice (some ⟨b, o, none⟩) p p, .slice a5 _ c5, _] [xs.take p, presA ⟨x, y⟩, xs.drop p] _ ((ass_three w5 _ (by first | omega | (simp; done) | (simp; omega)) _ _ _ _ _ _ ((H.out.up BW5).cut hpl2) A5 (hpc.up BW5) _).more (by first | omega | (simp; done) | (simp; omega))) HFL.out).mono ?_; rintro e w6 ⟨v6, rfl, A6, b6⟩; rw [HCUT.out] at A6; obtain ⟨a6, c6, rfl, _⟩ := A6.form; have j0 := (b6.cell (p := ⟨w.heap.size, 0, none⟩) (by first | omega | (simp; done) | (simp; omega))).trans ((World.cell?_alloc_lt w5 _ _ (by first | omega | (simp; done) | (simp; omega))).trans k0); have j1 := (b6.cell (p := ⟨w.heap.size, 1, none⟩) (by first | omega | (simp; done) | (simp; omega))).trans ((World.cell?_alloc_lt w5 _ _ (by first | omega | (simp; done) | (simp; omega))).trans k1)))
        have X6 := (((X3.below BX5 X3.lt).alloc _).below b6 (by first | omega | (simp; done) | (simp; omega)))
        have B6 : Below w.heap.size w w6 := (BW5.alloc (by first | omega | (simp; done) | (simp; omega)) _).trans (b6.mono (by first | omega | (simp; done) | (simp; omega)))
        have s6 := B6.size
        have l6 := X6.lt
        clear b5 b6 BW5 BX5 A5 X3 B3 k0 k1 j0 j1 z0 z1 HP HFL HCUT
        obtain ⟨_, a0, a1, f0, f1⟩ := X6
        by_cases hl : 6 < (setL xs ⟨x, y⟩).length
        · rw [if_pos hl] at HF
          generalize (setL xs ⟨x, y⟩).length = m at *
          have hlz : (6 : Int) < (m : Int) := by omega
          go_wp2
          refine bodyPost_ret (v := .tuple #[.slice none 0 0, faultV 14 0]) (by simp [results, Tryz.results121, faultV, go_sem, a0, a1]; try rfl) rfl (set_bad HF.out (by omega) ?_)
          exact (B6.setCell (by first | omega | (simp; done) | (simp; omega)) _).setCell (by first | omega | (simp; done) | (simp; omega)) _
        · rw [if_neg hl] at HF
          have HA := Lib.hid A6
          clear A6
          have HA2 := Lib.hid ((HA.out.far (p := ⟨n1, 0, none⟩) (by first | omega | (simp; done) | (simp; omega)) (.int .i64 0)).far (p := ⟨n1, 1, none⟩) (by first | omega | (simp; done) | (simp; omega)) (.int .i64 0))
          clear HA
          generalize hm : (setL xs ⟨x, y⟩).length = m at *
          have hlz : decide ((6 : Int) < (m : Int)) = false := by simp; omega
          go_wp2
          refine bodyPost_ret (v := .tuple #[.slice a6 m c6, faultV 0 0]) (by simp [results, Tryz.results121, faultV, go_sem, a0, a1]; try rfl) rfl ⟨_, by rw [HF.out], ?_, (B6.setCell (by first | omega | (simp; done) | (simp; omega)) _).setCell (by first | omega | (simp; done) | (simp; omega)) _⟩
          have e : setO xs ⟨x, y⟩ = setL xs ⟨x, y⟩ := by unfold setO; rw [HF.out, if_pos rfl]
          rw [e]
          exact ⟨HA2.out.ats, HA2.out.row (by first | omega | (simp; done) | (simp; omega))⟩
      · go_region_held3 (fun w' => w'.cell? ⟨w.heap.size, 0, none⟩ = some (.string x) ∧ w'.cell? ⟨w.heap.size, 1, none⟩ = some (.string y))
          (first | go_keep | exact ⟨k0, k1⟩ | exact ⟨j0, j1⟩)
          (first | (go_at_call 156; refine (HP.out _).mono ?_; rintro e w5 ⟨v5, rfl, A5, b5⟩; obtain ⟨a5, c5, rfl, _⟩ := A5.form rfl; have k0 := (b5.cell (p := ⟨w.heap.size, 0, none⟩) (by first | omega | (simp; done) | (simp; omega))).trans z0; have k1 := (b5.cell (p := ⟨w.heap.size, 1, none⟩) (by first | omega | (simp; done) | (simp; omega))).trans z1; have BW5 : Below w.heap.size w w5 := (by first | exact B3.drew.trans (b5.mono (by first | omega | (simp; done) | (simp; omega))) | exact B3.trans (b5.mono (by first | omega | (simp; done) | (simp; omega)))); have BX5 : Below w3.heap.size w3 w5 := (by first | exact (Below.refl _ _).drew.trans (b5.mono (by first | omega | (simp; done) | (simp; omega))) | exact b5); have s5 := BX5.size) | (go_at_call 155; refine (concat_any _ [.slice (some ⟨b, o, none⟩) p c, .slice a5 _ c5, _] [xs.take p, presA ⟨x, y⟩, xs.drop p] _ ((ass_three w5 _ (by first | omega | (simp; done) | (simp; omega)) _ _ _ _ _ _ ((H.out.up BW5).cut hpl2) A5 ((H.out.up BW5).from_ hpl3) _).more (by first | omega | (simp; done) | (simp; omega))) HFL.out).mono ?_; rintro e w6 ⟨v6, rfl, A6, b6⟩; rw [HCUT.out] at A6; obtain ⟨a6, c6, rfl, _⟩ := A6.form; have j0 := (b6.cell (p := ⟨w.heap.size, 0, none⟩) (by first | omega | (simp; done) | (simp; omega))).trans ((World.cell?_alloc_lt w5 _ _ (by first | omega | (simp; done) | (simp; omega))).trans k0); have j1 := (b6.cell (p := ⟨w.heap.size, 1, none⟩) (by first | omega | (simp; done) | (simp; omega))).trans ((World.cell?_alloc_lt w5 _ _ (by first | omega | (simp; done) | (simp; omega))).trans k1)))
        have X6 := (((X3.below BX5 X3.lt).alloc _).below b6 (by first | omega | (simp; done) | (simp; omega)))
        have B6 : Below w.heap.size w w6 := (BW5.alloc (by first | omega | (simp; done) | (simp; omega)) _).trans (b6.mono (by first | omega | (simp; done) | (simp; omega)))
        have s6 := B6.size
        have l6 := X6.lt
        clear b5 b6 BW5 BX5 A5 X3 B3 k0 k1 j0 j1 z0 z1 HP HFL HCUT
        obtain ⟨_, a0, a1, f0, f1⟩ := X6
        by_cases hl : 6 < (setL xs ⟨x, y⟩).length
        · rw [if_pos hl] at HF
          generalize (setL xs ⟨x, y⟩).length = m at *
          have hlz : (6 : Int) < (m : Int) := by omega
          go_wp2
          refine bodyPost_ret (v := .tuple #[.slice none 0 0, faultV 14 0]) (by simp [results, Tryz.results121, faultV, go_sem, a0, a1]; try rfl) rfl (set_bad HF.out (by omega) ?_)
          exact (B6.setCell (by first | omega | (simp; done) | (simp; omega)) _).setCell (by first | omega | (simp; done) | (simp; omega)) _
        · rw [if_neg hl] at HF
          have HA := Lib.hid A6
          clear A6
          have HA2 := Lib.hid ((HA.out.far (p := ⟨n1, 0, none⟩) (by first | omega | (simp; done) | (simp; omega)) (.int .i64 0)).far (p := ⟨n1, 1, none⟩) (by first | omega | (simp; done) | (simp; omega)) (.int .i64 0))
          clear HA
          generalize hm : (setL xs ⟨x, y⟩).length = m at *
          have hlz : decide ((6 : Int) < (m : Int)) = false := by simp; omega
          go_wp2
          refine bodyPost_ret (v := .tuple #[.slice a6 m c6, faultV 0 0]) (by simp [results, Tryz.results121, faultV, go_sem, a0, a1]; try rfl) rfl ⟨_, by rw [HF.out], ?_, (B6.setCell (by first | omega | (simp; done) | (simp; omega)) _).setCell (by first | omega | (simp; done) | (simp; omega)) _⟩
          have e : setO xs ⟨x, y⟩ = setL xs ⟨x, y⟩ := by unfold setO; rw [HF.out, if_pos rfl]
          rw [e]
          exact ⟨HA2.out.ats, HA2.out.row (by first | omega | (simp; done) | (simp; omega))⟩

end Go.Proofs.YtmbbmmnpkdfecaaGreatDoor
