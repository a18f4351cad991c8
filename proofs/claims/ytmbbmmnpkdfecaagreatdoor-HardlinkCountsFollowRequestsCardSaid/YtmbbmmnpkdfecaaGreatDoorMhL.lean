/- What a law of package memfs or of its neighbours needs, at the translation of this seat.
   Condition: as each theorem states; this text: HlLawFollow. -/
import Derived.Test.YtmbbmmnpkdfecaaGreatDoorMhA
import Derived.Test.YtmbbmmnpkdfecaaGreatDoorMhB
import Derived.Test.YtmbbmmnpkdfecaaGreatDoorMhC
import Derived.Test.YtmbbmmnpkdfecaaGreatDoorMhD
import Derived.Test.YtmbbmmnpkdfecaaGreatDoorMb34
import Derived.Test.YtmbbmmnpkdfecaaGreatDoorMfF
import Derived.WalkSmall

set_option linter.all false

/- The law HardlinkCountsFollowRequests returns true at every tree and request. Conditions: the tree and the request lie in memory as they read; the door's variable lies in memory. -/

set_option linter.all false
namespace Go.Proofs.YtmbbmmnpkdfecaaGreatDoor
open Go.RowKit

theorem countsOk_any (a : Option Addr) (c : Nat) (t : Tr) (w : World) (h : Nods w w.heap.size a c t) (hv : (valT t).1 = 0) :
    Calls Tryz.prog 26 #[.agg #[.slice a t.length c]] w fun e w' => ∃ R, w.heap.size ≤ R ∧ e = .returned (.tuple #[.slice (some ⟨R, 0, none⟩) t.length t.length, .agg #[.int .i64 0, .int .i64 0]]) ∧ Row w' R t.length (fun j => .int .i64 (refs t j : Nat)) ∧ Below w.heap.size w w' :=
  (counts_any a c t w h).mono fun e w' hh => by
    rcases hh with ⟨h1, _⟩ | ⟨_, R, h2⟩
    · exact absurd hv h1
    · exact ⟨R, h2⟩
theorem countsBad_any (a : Option Addr) (c : Nat) (t : Tr) (w : World) (h : Nods w w.heap.size a c t) (hv : (valT t).1 ≠ 0) :
    Calls Tryz.prog 26 #[.agg #[.slice a t.length c]] w fun e w' => e = .returned (.tuple #[.slice none 0 0, .agg #[.int .i64 (valT t).1, .int .i64 (valT t).2]]) ∧ Below w.heap.size w w' :=
  (counts_any a c t w h).mono fun e w' hh => by
    rcases hh with ⟨_, h1⟩ | ⟨h0, _⟩
    · exact h1
    · exact absurd h0 hv
theorem sampleCounts_any (sb : Nat) (w : World) (h : Nods w w.heap.size (some ⟨sb, 0, none⟩) 3 sampleT) :
    Calls Tryz.prog 26 #[.agg #[.slice (some ⟨sb, 0, none⟩) 3 3]] w fun e w' => ∃ R, e = .returned (.tuple #[.slice (some ⟨R, 0, none⟩) 3 3, .agg #[.int .i64 0, .int .i64 0]]) ∧ Row w' R 3 (fun j => .int .i64 (refs sampleT j : Nat)) ∧ Below w.heap.size w w' :=
  (countsOk_any _ 3 sampleT w h (by rw [valT_sample])).mono fun e w' ⟨R, _, h2⟩ => ⟨R, h2⟩
theorem refs_small {t : Tr} (h : Ok1 t) (n : Nat) : refs t n ≤ 1000 := by
  rw [← upto_all]; exact cnt_le h t.length 0 n (Nat.le_refl _)
def part (sg : Int) (x k : Nat) : Int := sg * (if x < k then 1 else 0)
theorem part_succ (sg : Int) (x k : Nat) : part sg x k + sg * (oneIf (x : Int) k : Nat) = part sg x (k + 1) := by
  unfold part oneIf
  by_cases h : (x : Int) = (k : Int)
  · rw [if_pos h, if_neg (by omega), if_pos (by omega)]; simp
  · rw [if_neg h]
    by_cases h2 : x < k
    · rw [if_pos h2, if_pos (by omega)]; simp
    · rw [if_neg h2, if_neg (by omega)]; simp
theorem part_small {sg : Int} (h : sg = 1 ∨ sg = -1 ∨ sg = 0) (x k : Nat) : -1 ≤ part sg x k ∧ part sg x k ≤ 1 := by
  unfold part
  rcases h with rfl | rfl | rfl <;> split <;> omega
theorem one_small {sg : Int} (h : sg = 1 ∨ sg = -1 ∨ sg = 0) (x k : Nat) : -1 ≤ sg * (oneIf (x : Int) k : Nat) ∧ sg * (oneIf (x : Int) k : Nat) ≤ 1 := by
  unfold oneIf
  rcases h with rfl | rfl | rfl <;> split <;> omega
theorem three_ints (w : World) : ∀ j, j < 3 → ((w.alloc (.cells #[.int .i64 0, .int .i64 0] 37)).alloc (.cells #[.int .i64 0, .int .i64 1, .int .i64 1] 3)).cell? ⟨w.heap.size + 1, 0 + j, none⟩ = some (.int .i64 ((refs sampleT j : Nat) : Int)) := by
  intro j hj
  have e0 : refs sampleT 0 = 0 := by decide +kernel
  have e1 : refs sampleT 1 = 1 := by decide +kernel
  have e2 : refs sampleT 2 = 1 := by decide +kernel
  have : j = 0 ∨ j = 1 ∨ j = 2 := by omega
  rcases this with rfl | rfl | rfl
  · rw [e0]; exact new_cell (by simp) rfl
  · rw [e1]; exact new_cell (by simp) rfl
  · rw [e2]; exact new_cell (by simp) rfl

set_option maxRecDepth 100000 in
set_option maxHeartbeats 6400000 in
theorem lawFolBad1_any (a : Option Addr) (c : Nat) (t : FT) (r : Rq) (vd va : Value) (w : World) (gm : GM w) (h : FNods w w.heap.size a c t) (hr : RqS w w.heap.size vd va r) (hbad : ¬ ((valT (tr t)).1 = 0 ∧ rqC r = 0)) (hv : (valT (tr t)).1 ≠ 0) :
    Calls Tryz.prog 10 #[.agg #[.slice a t.length c], rqV r vd va] w fun e w' => e = .returned (.bool true) ∧ Below w.heap.size w w' := by
  obtain ⟨qa, qc, rfl, hqd⟩ := id hr.d
  obtain ⟨pa, pc, rfl, hpd⟩ := id hr.ac
  clear hqd hpd
  have T := Lib.hid (two_new w [.slice a t.length c] (rqL r (.slice qa r.d.length qc) (.slice pa r.ac.length pc)) 24 30)
  unfold rqL at T
  have CA := Lib.hid (fun W (hb : Below w.heap.size w W) => (applyFault_any a c t r (.slice qa r.d.length qc) (.slice pa r.ac.length pc) W (gm.below hb) (h.up hb) (hr.up hb) hbad).2)
  have hne := (applyFault_any a c t r (.slice qa r.d.length qc) (.slice pa r.ac.length pc) w gm h hr hbad).1
  have CC := Lib.hid (fun W (hb : Below w.heap.size w W) => countsBad_any a c (tr t) W ((h.up hb).nods) hv)
  rw [tr_len] at CC
  have hqq : ((valT (tr t)).1 != 0) = true := by simpa using hv
  clear gm h hr hbad hv
  generalize (valT (tr t)).1 = qq at *
  generalize (valT (tr t)).2 = qi at *
  unfold rpV at CA
  generalize (fltF t r).1 = fc at *
  generalize (fltF t r).2 = fi at *
  have hcc : (fc != 0) = true := by simpa using hne
  have hcd : (fc == 0) = false := by simpa using hne
  clear hne
  unfold rqV at *
  go_enter Tryz.func10, Tryz.ntmps10
  go_upto_region 1 with fail
  generalize (w.alloc (.cells #[.slice a t.length c] 24)).alloc (.cells #[.int .i64 r.k, .int .i64 r.u, .string r.p, .string r.t, .int .i64 r.off, .int .i64 r.sz, .slice qa r.d.length qc, .slice pa r.ac.length pc, .string r.a.n, .string r.a.v] 30) = w2 at *
  generalize w.heap.size + 1 = N at *
  obtain ⟨tb, tt, tr'⟩ := T.out
  have B2 := Lib.hid tb
  have KT := Lib.hid tt
  have KR := Lib.hid tr'
  clear tb tt tr' T
  have k0 := KT.out.c 0 _ rfl
  have u0 := KR.out.c 0 _ rfl
  have u1 := KR.out.c 1 _ rfl
  have u2 := KR.out.c 2 _ rfl
  have u3 := KR.out.c 3 _ rfl
  have u4 := KR.out.c 4 _ rfl
  have u5 := KR.out.c 5 _ rfl
  have u6 := KR.out.c 6 _ rfl
  have u7 := KR.out.c 7 _ rfl
  have u8 := KR.out.c 8 _ rfl
  have u9 := KR.out.c 9 _ rfl
  have kl := KT.out.lt
  have ul := KR.out.lt
  go_wp2_with fail
  refine (CA.out _ B2.out).mono ?_
  rintro e z ⟨hbz, rfl⟩
  have BZ := Lib.hid (B2.out.trans (hbz.mono B2.out.size))
  have KTZ := Lib.hid (KT.out.up hbz)
  have KRZ := Lib.hid (KR.out.up hbz)
  clear hbz
  clear k0 u0 u1 u2 u3 u4 u5 u6 u7 u8 u9 kl ul KT KR
  have TN := Lib.hid (three_new z [.slice none 0 0] [.int .i64 0, .slice none 0 0, .slice none 0 0, .int .i64 0, .int .i64 0, .int .i64 0, .int .i64 0, .int .i64 0, .int .i64 0] [.int .i64 fc, .int .i64 fi] 24 35 37)
  go_upto_region 2 with fail
  have B5 := Lib.hid (BZ.out.trans (TN.out.1.mono BZ.out.size))
  have KT5 := Lib.hid (KTZ.out.up TN.out.1)
  have KR5 := Lib.hid (KRZ.out.up TN.out.1)
  generalize ((z.alloc (.cells #[.slice none 0 0] 24)).alloc (.cells #[.int .i64 0, .slice none 0 0, .slice none 0 0, .int .i64 0, .int .i64 0, .int .i64 0, .int .i64 0, .int .i64 0, .int .i64 0] 35)).alloc (.cells #[.int .i64 fc, .int .i64 fi] 37) = w5 at *
  generalize z.heap.size + 1 + 1 = n3 at *
  generalize z.heap.size + 1 = n2 at *
  generalize z.heap.size = n1 at *
  have U5 := Lib.hid TN.out.2.1
  have P5 := Lib.hid TN.out.2.2.1
  have F5 := Lib.hid TN.out.2.2.2
  clear TN BZ KTZ KRZ
  have k0 := KT5.out.c 0 _ rfl
  have kl := KT5.out.lt
  go_wp2_with fail
  refine (CC.out _ B5.out).mono ?_
  rintro e w6 ⟨rfl, b6⟩
  have B6 := Lib.hid ((B5.out.trans (b6.mono B5.out.size)).alloc (Nat.le_trans B5.out.size b6.size) (.cells #[.int .i64 qq, .int .i64 qi] 37))
  have G6 := Lib.hid (FBox.new w6 qq qi 37)
  have g6 := Gr.trans b6 (Gr.alloc w6 (.cells #[.int .i64 qq, .int .i64 qi] 37))
  have KT6 := Lib.hid (KT5.out.up g6)
  have KR6 := Lib.hid (KR5.out.up g6)
  have U6 := Lib.hid (U5.out.up g6)
  have P6 := Lib.hid (P5.out.up g6)
  have F6 := Lib.hid (F5.out.up g6)
  clear k0 kl b6 g6 KT5 KR5 U5 P5 F5 B5
  go_wp2_with fail
  refine (sample_any _).mono ?_
  rintro e w7 ⟨sb, rfl, hn7, b7⟩
  have B7 := Lib.hid (B6.out.trans (b7.mono B6.out.size))
  have KT7 := Lib.hid (KT6.out.up b7)
  have KR7 := Lib.hid (KR6.out.up b7)
  have U7 := Lib.hid (U6.out.up b7)
  have P7 := Lib.hid (P6.out.up b7)
  have F7 := Lib.hid (F6.out.up b7)
  have G7 := Lib.hid (G6.out.below b7 G6.out.lt)
  have CS := Lib.hid (sampleCounts_any sb w7 hn7)
  clear b7 hn7 KT6 KR6 U6 P6 F6 G6 B6
  go_wp2_with fail
  refine CS.out.mono ?_
  rintro e w8 ⟨R3, rfl, row3, b8⟩
  have H8 := Lib.hid (FBox.new w8 0 0 37)
  have g8 := Gr.trans b8 (Gr.alloc w8 (.cells #[.int .i64 0, .int .i64 0] 37))
  have B8 := Lib.hid (B7.out.trans (g8.mono B7.out.size))
  have KT8 := Lib.hid (KT7.out.up g8)
  have KR8 := Lib.hid (KR7.out.up g8)
  have U8 := Lib.hid (U7.out.up g8)
  have P8 := Lib.hid (P7.out.up g8)
  have F8 := Lib.hid (F7.out.up g8)
  have G8 := Lib.hid (G7.out.below g8 G7.out.lt)
  have S8 := Lib.hid (row3.alloc (.cells #[.int .i64 0, .int .i64 0] 37))
  clear b8 g8 row3 CS KT7 KR7 U7 P7 F7 G7 B7
  go_wp2_with fail
  have hI := Lib.hid (three_ints w8)
  have gi := Lib.hid (Gr.alloc (w8.alloc (.cells #[.int .i64 0, .int .i64 0] 37)) (.cells #[.int .i64 0, .int .i64 1, .int .i64 1] 3))
  refine (intsRows_any R3 0 3 (w8.heap.size + 1) 0 3 3 (fun j => ((refs sampleT j : Nat) : Int)) _ (by omega) (fun j hj => ?ca) (fun j hj => ?cb)).mono ?_
  case ca => rw [Nat.zero_add]; exact ((S8.out.below gi.out S8.out.lt).c j hj)
  case cb => exact hI.out j hj
  rintro e w9 ⟨rfl, q9, rfl⟩
  have g9 : Gr (w8.alloc (.cells #[.int .i64 0, .int .i64 0] 37)) (((w8.alloc (.cells #[.int .i64 0, .int .i64 0] 37)).alloc (.cells #[.int .i64 0, .int .i64 1, .int .i64 1] 3)).drewN q9) := below_drewN gi.out q9
  have B9 := Lib.hid (B8.out.trans (g9.mono B8.out.size))
  have KT9 := Lib.hid (KT8.out.up g9)
  have KR9 := Lib.hid (KR8.out.up g9)
  have U9 := Lib.hid (U8.out.up g9)
  have P9 := Lib.hid (P8.out.up g9)
  have F9 := Lib.hid (F8.out.up g9)
  have G9 := Lib.hid (G8.out.below g9 G8.out.lt)
  clear hI gi g9 S8 H8 KT8 KR8 U8 P8 F8 G8 B8
  generalize ((w8.alloc (.cells #[.int .i64 0, .int .i64 0] 37)).alloc (.cells #[.int .i64 0, .int .i64 1, .int .i64 1] 3)).drewN q9 = w9 at *
  have f0 := F9.out.c 0 _ rfl
  have fl := F9.out.lt
  obtain ⟨gl, gg0, _, _, _⟩ := G9.out
  have p0 := P9.out.c 0 _ rfl
  have pl := P9.out.lt
  have t0 := U9.out.c 0 _ rfl
  have tl := U9.out.lt
  go_wp2
  all_goals
    go_ret
    exact ⟨rfl, B9.out⟩

set_option maxRecDepth 100000 in
set_option maxHeartbeats 6400000 in
theorem lawFolBad2_any (a : Option Addr) (c : Nat) (t : FT) (r : Rq) (vd va : Value) (w : World) (gm : GM w) (h : FNods w w.heap.size a c t) (hr : RqS w w.heap.size vd va r) (hbad : ¬ ((valT (tr t)).1 = 0 ∧ rqC r = 0)) (hv : (valT (tr t)).1 = 0) :
    Calls Tryz.prog 10 #[.agg #[.slice a t.length c], rqV r vd va] w fun e w' => e = .returned (.bool true) ∧ Below w.heap.size w w' := by
  obtain ⟨qa, qc, rfl, hqd⟩ := id hr.d
  obtain ⟨pa, pc, rfl, hpd⟩ := id hr.ac
  clear hqd hpd
  have T := Lib.hid (two_new w [.slice a t.length c] (rqL r (.slice qa r.d.length qc) (.slice pa r.ac.length pc)) 24 30)
  unfold rqL at T
  have CA := Lib.hid (fun W (hb : Below w.heap.size w W) => (applyFault_any a c t r (.slice qa r.d.length qc) (.slice pa r.ac.length pc) W (gm.below hb) (h.up hb) (hr.up hb) hbad).2)
  have hne := (applyFault_any a c t r (.slice qa r.d.length qc) (.slice pa r.ac.length pc) w gm h hr hbad).1
  have CC := Lib.hid (fun W (hb : Below w.heap.size w W) => countsOk_any a c (tr t) W ((h.up hb).nods) hv)
  rw [tr_len] at CC
  clear gm h hr hbad hv
  unfold rpV at CA
  generalize (fltF t r).1 = fc at *
  generalize (fltF t r).2 = fi at *
  have hcc : (fc != 0) = true := by simpa using hne
  have hcd : (fc == 0) = false := by simpa using hne
  clear hne
  unfold rqV at *
  go_enter Tryz.func10, Tryz.ntmps10
  go_upto_region 1 with fail
  generalize (w.alloc (.cells #[.slice a t.length c] 24)).alloc (.cells #[.int .i64 r.k, .int .i64 r.u, .string r.p, .string r.t, .int .i64 r.off, .int .i64 r.sz, .slice qa r.d.length qc, .slice pa r.ac.length pc, .string r.a.n, .string r.a.v] 30) = w2 at *
  generalize w.heap.size + 1 = N at *
  obtain ⟨tb, tt, tr'⟩ := T.out
  have B2 := Lib.hid tb
  have KT := Lib.hid tt
  have KR := Lib.hid tr'
  clear tb tt tr' T
  have k0 := KT.out.c 0 _ rfl
  have u0 := KR.out.c 0 _ rfl
  have u1 := KR.out.c 1 _ rfl
  have u2 := KR.out.c 2 _ rfl
  have u3 := KR.out.c 3 _ rfl
  have u4 := KR.out.c 4 _ rfl
  have u5 := KR.out.c 5 _ rfl
  have u6 := KR.out.c 6 _ rfl
  have u7 := KR.out.c 7 _ rfl
  have u8 := KR.out.c 8 _ rfl
  have u9 := KR.out.c 9 _ rfl
  have kl := KT.out.lt
  have ul := KR.out.lt
  go_wp2_with fail
  refine (CA.out _ B2.out).mono ?_
  rintro e z ⟨hbz, rfl⟩
  have BZ := Lib.hid (B2.out.trans (hbz.mono B2.out.size))
  have KTZ := Lib.hid (KT.out.up hbz)
  have KRZ := Lib.hid (KR.out.up hbz)
  clear hbz
  clear k0 u0 u1 u2 u3 u4 u5 u6 u7 u8 u9 kl ul KT KR
  have TN := Lib.hid (three_new z [.slice none 0 0] [.int .i64 0, .slice none 0 0, .slice none 0 0, .int .i64 0, .int .i64 0, .int .i64 0, .int .i64 0, .int .i64 0, .int .i64 0] [.int .i64 fc, .int .i64 fi] 24 35 37)
  go_upto_region 2 with fail
  have B5 := Lib.hid (BZ.out.trans (TN.out.1.mono BZ.out.size))
  have KT5 := Lib.hid (KTZ.out.up TN.out.1)
  have KR5 := Lib.hid (KRZ.out.up TN.out.1)
  generalize ((z.alloc (.cells #[.slice none 0 0] 24)).alloc (.cells #[.int .i64 0, .slice none 0 0, .slice none 0 0, .int .i64 0, .int .i64 0, .int .i64 0, .int .i64 0, .int .i64 0, .int .i64 0] 35)).alloc (.cells #[.int .i64 fc, .int .i64 fi] 37) = w5 at *
  generalize z.heap.size + 1 + 1 = n3 at *
  generalize z.heap.size + 1 = n2 at *
  generalize z.heap.size = n1 at *
  have U5 := Lib.hid TN.out.2.1
  have P5 := Lib.hid TN.out.2.2.1
  have F5 := Lib.hid TN.out.2.2.2
  clear TN BZ KTZ KRZ
  have k0 := KT5.out.c 0 _ rfl
  have kl := KT5.out.lt
  go_wp2_with fail
  refine (CC.out _ B5.out).mono ?_
  rintro e w6 ⟨R, hR, rfl, hrow, b6⟩
  have B6 := Lib.hid ((B5.out.trans (b6.mono B5.out.size)).alloc (Nat.le_trans B5.out.size b6.size) (.cells #[.int .i64 0, .int .i64 0] 37))
  have G6 := Lib.hid (FBox.new w6 0 0 37)
  have g6 := Gr.trans b6 (Gr.alloc w6 (.cells #[.int .i64 0, .int .i64 0] 37))
  have KT6 := Lib.hid (KT5.out.up g6)
  have KR6 := Lib.hid (KR5.out.up g6)
  have U6 := Lib.hid (U5.out.up g6)
  have P6 := Lib.hid (P5.out.up g6)
  have F6 := Lib.hid (F5.out.up g6)
  have R6 := Lib.hid (hrow.alloc (.cells #[.int .i64 0, .int .i64 0] 37))
  clear hrow
  clear k0 kl b6 g6 KT5 KR5 U5 P5 F5 B5
  go_wp2_with fail
  refine (sample_any _).mono ?_
  rintro e w7 ⟨sb, rfl, hn7, b7⟩
  have B7 := Lib.hid (B6.out.trans (b7.mono B6.out.size))
  have KT7 := Lib.hid (KT6.out.up b7)
  have KR7 := Lib.hid (KR6.out.up b7)
  have U7 := Lib.hid (U6.out.up b7)
  have P7 := Lib.hid (P6.out.up b7)
  have F7 := Lib.hid (F6.out.up b7)
  have G7 := Lib.hid (G6.out.below b7 G6.out.lt)
  have R7 := Lib.hid (R6.out.below b7 R6.out.lt)
  have CS := Lib.hid (sampleCounts_any sb w7 hn7)
  clear b7 hn7 KT6 KR6 U6 P6 F6 G6 B6 R6
  go_wp2_with fail
  refine CS.out.mono ?_
  rintro e w8 ⟨R3, rfl, row3, b8⟩
  have H8 := Lib.hid (FBox.new w8 0 0 37)
  have g8 := Gr.trans b8 (Gr.alloc w8 (.cells #[.int .i64 0, .int .i64 0] 37))
  have B8 := Lib.hid (B7.out.trans (g8.mono B7.out.size))
  have KT8 := Lib.hid (KT7.out.up g8)
  have KR8 := Lib.hid (KR7.out.up g8)
  have U8 := Lib.hid (U7.out.up g8)
  have P8 := Lib.hid (P7.out.up g8)
  have F8 := Lib.hid (F7.out.up g8)
  have G8 := Lib.hid (G7.out.below g8 G7.out.lt)
  have S8 := Lib.hid (row3.alloc (.cells #[.int .i64 0, .int .i64 0] 37))
  have R8 := Lib.hid (R7.out.below g8 R7.out.lt)
  clear b8 g8 row3 CS KT7 KR7 U7 P7 F7 G7 B7 R7
  go_wp2_with fail
  have hI := Lib.hid (three_ints w8)
  have gi := Lib.hid (Gr.alloc (w8.alloc (.cells #[.int .i64 0, .int .i64 0] 37)) (.cells #[.int .i64 0, .int .i64 1, .int .i64 1] 3))
  refine (intsRows_any R3 0 3 (w8.heap.size + 1) 0 3 3 (fun j => ((refs sampleT j : Nat) : Int)) _ (by omega) (fun j hj => ?ca) (fun j hj => ?cb)).mono ?_
  case ca => rw [Nat.zero_add]; exact ((S8.out.below gi.out S8.out.lt).c j hj)
  case cb => exact hI.out j hj
  rintro e w9 ⟨rfl, q9, rfl⟩
  have g9 : Gr (w8.alloc (.cells #[.int .i64 0, .int .i64 0] 37)) (((w8.alloc (.cells #[.int .i64 0, .int .i64 0] 37)).alloc (.cells #[.int .i64 0, .int .i64 1, .int .i64 1] 3)).drewN q9) := below_drewN gi.out q9
  have B9 := Lib.hid (B8.out.trans (g9.mono B8.out.size))
  have KT9 := Lib.hid (KT8.out.up g9)
  have KR9 := Lib.hid (KR8.out.up g9)
  have U9 := Lib.hid (U8.out.up g9)
  have P9 := Lib.hid (P8.out.up g9)
  have F9 := Lib.hid (F8.out.up g9)
  have G9 := Lib.hid (G8.out.below g9 G8.out.lt)
  have R9 := Lib.hid (R8.out.below g9 R8.out.lt)
  clear hI gi g9 S8 H8 KT8 KR8 U8 P8 F8 G8 B8 R8
  generalize ((w8.alloc (.cells #[.int .i64 0, .int .i64 0] 37)).alloc (.cells #[.int .i64 0, .int .i64 1, .int .i64 1] 3)).drewN q9 = w9 at *
  have f0 := F9.out.c 0 _ rfl
  have fl := F9.out.lt
  obtain ⟨gl, gg0, _, _, _⟩ := G9.out
  have p0 := P9.out.c 0 _ rfl
  have pl := P9.out.lt
  have t0 := U9.out.c 0 _ rfl
  have tl := U9.out.lt
  go_wp2
  all_goals
    go_ret
    exact ⟨rfl, B9.out⟩

set_option maxRecDepth 100000 in
set_option maxHeartbeats 6400000 in
theorem lawFolErr_any (a : Option Addr) (c : Nat) (t : FT) (r : Rq) (vd va : Value) (w : World) (gm : GM w) (h : FNods w w.heap.size a c t) (hr : RqS w w.heap.size vd va r) (hv : (valT (tr t)).1 = 0) (hq : rqC r = 0) (hc : (applyF t r).2.c ≠ 0) :
    Calls Tryz.prog 10 #[.agg #[.slice a t.length c], rqV r vd va] w fun e w' => e = .returned (.bool true) ∧ Below w.heap.size w w' := by
  obtain ⟨qa, qc, rfl, hqd⟩ := id hr.d
  obtain ⟨pa, pc, rfl, hpd⟩ := id hr.ac
  clear hqd hpd
  have T := Lib.hid (two_new w [.slice a t.length c] (rqL r (.slice qa r.d.length qc) (.slice pa r.ac.length pc)) 24 30)
  unfold rqL at T
  have CA := Lib.hid (fun W (hb : Below w.heap.size w W) => applyOk_any a c t r (.slice qa r.d.length qc) (.slice pa r.ac.length pc) W (gm.below hb) (h.up hb) (hr.up hb) hv hq)
  have CC := Lib.hid (fun W (hb : Below w.heap.size w W) => countsOk_any a c (tr t) W ((h.up hb).nods) hv)
  rw [tr_len] at CC
  unfold rpV at CA
  clear gm h hr hv hq
  generalize applyF t r = AF at *
  obtain ⟨t', p⟩ := AF
  simp only at CA hc
  have hcc : (p.c != 0) = true := by simpa using hc
  clear hc
  unfold rqV at *
  go_enter Tryz.func10, Tryz.ntmps10
  go_upto_region 1 with fail
  generalize (w.alloc (.cells #[.slice a t.length c] 24)).alloc (.cells #[.int .i64 r.k, .int .i64 r.u, .string r.p, .string r.t, .int .i64 r.off, .int .i64 r.sz, .slice qa r.d.length qc, .slice pa r.ac.length pc, .string r.a.n, .string r.a.v] 30) = w2 at *
  generalize w.heap.size + 1 = N at *
  obtain ⟨tb, tt, tr'⟩ := T.out
  have B2 := Lib.hid tb
  have KT := Lib.hid tt
  have KR := Lib.hid tr'
  clear tb tt tr' T
  have k0 := KT.out.c 0 _ rfl
  have u0 := KR.out.c 0 _ rfl
  have u1 := KR.out.c 1 _ rfl
  have u2 := KR.out.c 2 _ rfl
  have u3 := KR.out.c 3 _ rfl
  have u4 := KR.out.c 4 _ rfl
  have u5 := KR.out.c 5 _ rfl
  have u6 := KR.out.c 6 _ rfl
  have u7 := KR.out.c 7 _ rfl
  have u8 := KR.out.c 8 _ rfl
  have u9 := KR.out.c 9 _ rfl
  have kl := KT.out.lt
  have ul := KR.out.lt
  go_wp2_with fail
  refine (CA.out _ B2.out).mono ?_
  rintro e z ⟨hbz, g, cap, sl, vd', vn', rfl, ho, hs⟩
  obtain ⟨da, dc, rfl, hda⟩ := id hs.d
  obtain ⟨na, nc, rfl, hna⟩ := id hs.ns
  have OZ := Lib.hid ho
  clear hda hna ho hs
  have BZ := Lib.hid (B2.out.trans (hbz.mono B2.out.size))
  have KTZ := Lib.hid (KT.out.up hbz)
  have KRZ := Lib.hid (KR.out.up hbz)
  clear hbz
  clear k0 u0 u1 u2 u3 u4 u5 u6 u7 u8 u9 kl ul KT KR
  have TN := Lib.hid (three_new z [.slice (some ⟨g, 0, none⟩) t'.length cap] [.int .i64 p.c, .slice da p.d.length dc, .slice na p.ns.length nc, .int .i64 p.s.i, .int .i64 p.s.k, .int .i64 p.s.o, .int .i64 p.s.z, .int .i64 p.s.l, .int .i64 p.s.v] [.int .i64 0, .int .i64 0] 24 35 37)
  go_upto_region 2 with fail
  have B5 := Lib.hid (BZ.out.trans (TN.out.1.mono BZ.out.size))
  have KT5 := Lib.hid (KTZ.out.up TN.out.1)
  have KR5 := Lib.hid (KRZ.out.up TN.out.1)
  have O5 := Lib.hid (OZ.out.up TN.out.1)
  generalize ((z.alloc (.cells #[.slice (some ⟨g, 0, none⟩) t'.length cap] 24)).alloc (.cells #[.int .i64 p.c, .slice da p.d.length dc, .slice na p.ns.length nc, .int .i64 p.s.i, .int .i64 p.s.k, .int .i64 p.s.o, .int .i64 p.s.z, .int .i64 p.s.l, .int .i64 p.s.v] 35)).alloc (.cells #[.int .i64 0, .int .i64 0] 37) = w5 at *
  generalize z.heap.size + 1 + 1 = n3 at *
  generalize z.heap.size + 1 = n2 at *
  generalize z.heap.size = n1 at *
  have U5 := Lib.hid TN.out.2.1
  have P5 := Lib.hid TN.out.2.2.1
  have F5 := Lib.hid TN.out.2.2.2
  clear TN BZ KTZ KRZ OZ
  have k0 := KT5.out.c 0 _ rfl
  have kl := KT5.out.lt
  go_wp2_with fail
  refine (CC.out _ B5.out).mono ?_
  rintro e w6 ⟨R, hR, rfl, hrow, b6⟩
  have B6 := Lib.hid ((B5.out.trans (b6.mono B5.out.size)).alloc (Nat.le_trans B5.out.size b6.size) (.cells #[.int .i64 0, .int .i64 0] 37))
  have G6 := Lib.hid (FBox.new w6 0 0 37)
  have g6 := Gr.trans b6 (Gr.alloc w6 (.cells #[.int .i64 0, .int .i64 0] 37))
  have KT6 := Lib.hid (KT5.out.up g6)
  have KR6 := Lib.hid (KR5.out.up g6)
  have U6 := Lib.hid (U5.out.up g6)
  have P6 := Lib.hid (P5.out.up g6)
  have F6 := Lib.hid (F5.out.up g6)
  have O6 := Lib.hid (O5.out.up g6)
  have R6 := Lib.hid (hrow.alloc (.cells #[.int .i64 0, .int .i64 0] 37))
  clear hrow
  clear k0 kl b6 g6 KT5 KR5 U5 P5 F5 B5 O5
  go_wp2_with fail
  refine (sample_any _).mono ?_
  rintro e w7 ⟨sb, rfl, hn7, b7⟩
  have B7 := Lib.hid (B6.out.trans (b7.mono B6.out.size))
  have KT7 := Lib.hid (KT6.out.up b7)
  have KR7 := Lib.hid (KR6.out.up b7)
  have U7 := Lib.hid (U6.out.up b7)
  have P7 := Lib.hid (P6.out.up b7)
  have F7 := Lib.hid (F6.out.up b7)
  have G7 := Lib.hid (G6.out.below b7 G6.out.lt)
  have O7 := Lib.hid (O6.out.up b7)
  have R7 := Lib.hid (R6.out.below b7 R6.out.lt)
  have CS := Lib.hid (sampleCounts_any sb w7 hn7)
  clear b7 hn7 KT6 KR6 U6 P6 F6 G6 B6 O6 R6
  go_wp2_with fail
  refine CS.out.mono ?_
  rintro e w8 ⟨R3, rfl, row3, b8⟩
  have H8 := Lib.hid (FBox.new w8 0 0 37)
  have g8 := Gr.trans b8 (Gr.alloc w8 (.cells #[.int .i64 0, .int .i64 0] 37))
  have B8 := Lib.hid (B7.out.trans (g8.mono B7.out.size))
  have KT8 := Lib.hid (KT7.out.up g8)
  have KR8 := Lib.hid (KR7.out.up g8)
  have U8 := Lib.hid (U7.out.up g8)
  have P8 := Lib.hid (P7.out.up g8)
  have F8 := Lib.hid (F7.out.up g8)
  have G8 := Lib.hid (G7.out.below g8 G7.out.lt)
  have S8 := Lib.hid (row3.alloc (.cells #[.int .i64 0, .int .i64 0] 37))
  have O8 := Lib.hid (O7.out.up g8)
  have R8 := Lib.hid (R7.out.below g8 R7.out.lt)
  clear b8 g8 row3 CS KT7 KR7 U7 P7 F7 G7 B7 O7 R7
  go_wp2_with fail
  have hI := Lib.hid (three_ints w8)
  have gi := Lib.hid (Gr.alloc (w8.alloc (.cells #[.int .i64 0, .int .i64 0] 37)) (.cells #[.int .i64 0, .int .i64 1, .int .i64 1] 3))
  refine (intsRows_any R3 0 3 (w8.heap.size + 1) 0 3 3 (fun j => ((refs sampleT j : Nat) : Int)) _ (by omega) (fun j hj => ?ca) (fun j hj => ?cb)).mono ?_
  case ca => rw [Nat.zero_add]; exact ((S8.out.below gi.out S8.out.lt).c j hj)
  case cb => exact hI.out j hj
  rintro e w9 ⟨rfl, q9, rfl⟩
  have g9 : Gr (w8.alloc (.cells #[.int .i64 0, .int .i64 0] 37)) (((w8.alloc (.cells #[.int .i64 0, .int .i64 0] 37)).alloc (.cells #[.int .i64 0, .int .i64 1, .int .i64 1] 3)).drewN q9) := below_drewN gi.out q9
  have B9 := Lib.hid (B8.out.trans (g9.mono B8.out.size))
  have KT9 := Lib.hid (KT8.out.up g9)
  have KR9 := Lib.hid (KR8.out.up g9)
  have U9 := Lib.hid (U8.out.up g9)
  have P9 := Lib.hid (P8.out.up g9)
  have F9 := Lib.hid (F8.out.up g9)
  have G9 := Lib.hid (G8.out.below g9 G8.out.lt)
  have O9 := Lib.hid (O8.out.up g9)
  have R9 := Lib.hid (R8.out.below g9 R8.out.lt)
  clear hI gi g9 S8 H8 KT8 KR8 U8 P8 F8 G8 B8 O8 R8
  generalize ((w8.alloc (.cells #[.int .i64 0, .int .i64 0] 37)).alloc (.cells #[.int .i64 0, .int .i64 1, .int .i64 1] 3)).drewN q9 = w9 at *
  have f0 := F9.out.c 0 _ rfl
  have fl := F9.out.lt
  obtain ⟨gl, gg0, _, _, _⟩ := G9.out
  have p0 := P9.out.c 0 _ rfl
  have pl := P9.out.lt
  have t0 := U9.out.c 0 _ rfl
  have tl := U9.out.lt
  go_wp2
  all_goals
    go_ret
    exact ⟨rfl, B9.out⟩

set_option maxRecDepth 100000 in
set_option maxHeartbeats 6400000 in
theorem lawFolOk_any (a : Option Addr) (c : Nat) (t : FT) (r : Rq) (vd va : Value) (w : World) (gm : GM w) (h : FNods w w.heap.size a c t) (hr : RqS w w.heap.size vd va r) (hv : (valT (tr t)).1 = 0) (hq : rqC r = 0) (hc : (applyF t r).2.c = 0) :
    Calls Tryz.prog 10 #[.agg #[.slice a t.length c], rqV r vd va] w fun e w' => e = .returned (.bool true) ∧ Below w.heap.size w w' := by
  obtain ⟨qa, qc, rfl, hqd⟩ := id hr.d
  obtain ⟨pa, pc, rfl, hpd⟩ := id hr.ac
  clear hqd hpd
  have T := Lib.hid (two_new w [.slice a t.length c] (rqL r (.slice qa r.d.length qc) (.slice pa r.ac.length pc)) 24 30)
  unfold rqL at T
  have CA := Lib.hid (fun W (hb : Below w.heap.size w W) => applyOk_any a c t r (.slice qa r.d.length qc) (.slice pa r.ac.length pc) W (gm.below hb) (h.up hb) (hr.up hb) hv hq)
  have CC := Lib.hid (fun W (hb : Below w.heap.size w W) => countsOk_any a c (tr t) W ((h.up hb).nods) hv)
  rw [tr_len] at CC
  obtain ⟨sg, x, hsg, hsum, hx, hkm, hks⟩ := follow_sum (ok1_of hv) r hc
  have HV' := Lib.hid (apply_valid hv r)
  have hlen := len_of hv
  have HL1 := Lib.hid (refs_small (ok1_of hv))
  have HL2 := Lib.hid (refs_small (ok1_of (apply_valid hv r)))
  have hlen2 := len_of (apply_valid hv r)
  unfold rpV at CA
  clear gm h hr hv hq
  have HS := Lib.hid hsum
  have HM := Lib.hid hkm
  clear hsum hkm
  generalize applyF t r = AF at *
  obtain ⟨t', p⟩ := AF
  simp only at CA hc HS HV' HL2 hlen2 hx hks
  have HC0 := Lib.hid hc
  clear hc
  unfold rqV at *
  go_enter Tryz.func10, Tryz.ntmps10
  go_upto_region 1 with fail
  generalize (w.alloc (.cells #[.slice a t.length c] 24)).alloc (.cells #[.int .i64 r.k, .int .i64 r.u, .string r.p, .string r.t, .int .i64 r.off, .int .i64 r.sz, .slice qa r.d.length qc, .slice pa r.ac.length pc, .string r.a.n, .string r.a.v] 30) = w2 at *
  generalize w.heap.size + 1 = N at *
  obtain ⟨tb, tt, tr'⟩ := T.out
  have B2 := Lib.hid tb
  have KT := Lib.hid tt
  have KR := Lib.hid tr'
  clear tb tt tr' T
  have k0 := KT.out.c 0 _ rfl
  have u0 := KR.out.c 0 _ rfl
  have u1 := KR.out.c 1 _ rfl
  have u2 := KR.out.c 2 _ rfl
  have u3 := KR.out.c 3 _ rfl
  have u4 := KR.out.c 4 _ rfl
  have u5 := KR.out.c 5 _ rfl
  have u6 := KR.out.c 6 _ rfl
  have u7 := KR.out.c 7 _ rfl
  have u8 := KR.out.c 8 _ rfl
  have u9 := KR.out.c 9 _ rfl
  have kl := KT.out.lt
  have ul := KR.out.lt
  go_wp2_with fail
  refine (CA.out _ B2.out).mono ?_
  rintro e z ⟨hbz, g, cap, sl, vd', vn', rfl, ho, hs⟩
  obtain ⟨da, dc, rfl, hda⟩ := id hs.d
  obtain ⟨na, nc, rfl, hna⟩ := id hs.ns
  have OZ := Lib.hid ho
  clear hda hna ho hs
  have BZ := Lib.hid (B2.out.trans (hbz.mono B2.out.size))
  have KTZ := Lib.hid (KT.out.up hbz)
  have KRZ := Lib.hid (KR.out.up hbz)
  clear hbz
  clear k0 u0 u1 u2 u3 u4 u5 u6 u7 u8 u9 kl ul KT KR
  have TN := Lib.hid (three_new z [.slice (some ⟨g, 0, none⟩) t'.length cap] [.int .i64 p.c, .slice da p.d.length dc, .slice na p.ns.length nc, .int .i64 p.s.i, .int .i64 p.s.k, .int .i64 p.s.o, .int .i64 p.s.z, .int .i64 p.s.l, .int .i64 p.s.v] [.int .i64 0, .int .i64 0] 24 35 37)
  go_upto_region 2 with fail
  have B5 := Lib.hid (BZ.out.trans (TN.out.1.mono BZ.out.size))
  have KT5 := Lib.hid (KTZ.out.up TN.out.1)
  have KR5 := Lib.hid (KRZ.out.up TN.out.1)
  have O5 := Lib.hid (OZ.out.up TN.out.1)
  generalize ((z.alloc (.cells #[.slice (some ⟨g, 0, none⟩) t'.length cap] 24)).alloc (.cells #[.int .i64 p.c, .slice da p.d.length dc, .slice na p.ns.length nc, .int .i64 p.s.i, .int .i64 p.s.k, .int .i64 p.s.o, .int .i64 p.s.z, .int .i64 p.s.l, .int .i64 p.s.v] 35)).alloc (.cells #[.int .i64 0, .int .i64 0] 37) = w5 at *
  generalize z.heap.size + 1 + 1 = n3 at *
  generalize z.heap.size + 1 = n2 at *
  generalize z.heap.size = n1 at *
  have U5 := Lib.hid TN.out.2.1
  have P5 := Lib.hid TN.out.2.2.1
  have F5 := Lib.hid TN.out.2.2.2
  clear TN BZ KTZ KRZ OZ
  have k0 := KT5.out.c 0 _ rfl
  have kl := KT5.out.lt
  go_wp2_with fail
  refine (CC.out _ B5.out).mono ?_
  rintro e w6 ⟨R, hR, rfl, hrow, b6⟩
  have B6 := Lib.hid ((B5.out.trans (b6.mono B5.out.size)).alloc (Nat.le_trans B5.out.size b6.size) (.cells #[.int .i64 0, .int .i64 0] 37))
  have G6 := Lib.hid (FBox.new w6 0 0 37)
  have g6 := Gr.trans b6 (Gr.alloc w6 (.cells #[.int .i64 0, .int .i64 0] 37))
  have KT6 := Lib.hid (KT5.out.up g6)
  have KR6 := Lib.hid (KR5.out.up g6)
  have U6 := Lib.hid (U5.out.up g6)
  have P6 := Lib.hid (P5.out.up g6)
  have F6 := Lib.hid (F5.out.up g6)
  have O6 := Lib.hid (O5.out.up g6)
  have R6 := Lib.hid (hrow.alloc (.cells #[.int .i64 0, .int .i64 0] 37))
  clear hrow
  clear k0 kl b6 g6 KT5 KR5 U5 P5 F5 B5 O5
  go_wp2_with fail
  refine (sample_any _).mono ?_
  rintro e w7 ⟨sb, rfl, hn7, b7⟩
  have B7 := Lib.hid (B6.out.trans (b7.mono B6.out.size))
  have KT7 := Lib.hid (KT6.out.up b7)
  have KR7 := Lib.hid (KR6.out.up b7)
  have U7 := Lib.hid (U6.out.up b7)
  have P7 := Lib.hid (P6.out.up b7)
  have F7 := Lib.hid (F6.out.up b7)
  have G7 := Lib.hid (G6.out.below b7 G6.out.lt)
  have O7 := Lib.hid (O6.out.up b7)
  have R7 := Lib.hid (R6.out.below b7 R6.out.lt)
  have CS := Lib.hid (sampleCounts_any sb w7 hn7)
  clear b7 hn7 KT6 KR6 U6 P6 F6 G6 B6 O6 R6
  go_wp2_with fail
  refine CS.out.mono ?_
  rintro e w8 ⟨R3, rfl, row3, b8⟩
  have H8 := Lib.hid (FBox.new w8 0 0 37)
  have g8 := Gr.trans b8 (Gr.alloc w8 (.cells #[.int .i64 0, .int .i64 0] 37))
  have B8 := Lib.hid (B7.out.trans (g8.mono B7.out.size))
  have KT8 := Lib.hid (KT7.out.up g8)
  have KR8 := Lib.hid (KR7.out.up g8)
  have U8 := Lib.hid (U7.out.up g8)
  have P8 := Lib.hid (P7.out.up g8)
  have F8 := Lib.hid (F7.out.up g8)
  have G8 := Lib.hid (G7.out.below g8 G7.out.lt)
  have S8 := Lib.hid (row3.alloc (.cells #[.int .i64 0, .int .i64 0] 37))
  have O8 := Lib.hid (O7.out.up g8)
  have R8 := Lib.hid (R7.out.below g8 R7.out.lt)
  clear b8 g8 row3 CS KT7 KR7 U7 P7 F7 G7 B7 O7 R7
  go_wp2_with fail
  have hI := Lib.hid (three_ints w8)
  have gi := Lib.hid (Gr.alloc (w8.alloc (.cells #[.int .i64 0, .int .i64 0] 37)) (.cells #[.int .i64 0, .int .i64 1, .int .i64 1] 3))
  refine (intsRows_any R3 0 3 (w8.heap.size + 1) 0 3 3 (fun j => ((refs sampleT j : Nat) : Int)) _ (by omega) (fun j hj => ?ca) (fun j hj => ?cb)).mono ?_
  case ca => rw [Nat.zero_add]; exact ((S8.out.below gi.out S8.out.lt).c j hj)
  case cb => exact hI.out j hj
  rintro e w9 ⟨rfl, q9, rfl⟩
  have g9 : Gr (w8.alloc (.cells #[.int .i64 0, .int .i64 0] 37)) (((w8.alloc (.cells #[.int .i64 0, .int .i64 0] 37)).alloc (.cells #[.int .i64 0, .int .i64 1, .int .i64 1] 3)).drewN q9) := below_drewN gi.out q9
  have B9 := Lib.hid (B8.out.trans (g9.mono B8.out.size))
  have KT9 := Lib.hid (KT8.out.up g9)
  have KR9 := Lib.hid (KR8.out.up g9)
  have U9 := Lib.hid (U8.out.up g9)
  have P9 := Lib.hid (P8.out.up g9)
  have F9 := Lib.hid (F8.out.up g9)
  have G9 := Lib.hid (G8.out.below g9 G8.out.lt)
  have O9 := Lib.hid (O8.out.up g9)
  have R9 := Lib.hid (R8.out.below g9 R8.out.lt)
  clear hI gi g9 S8 H8 KT8 KR8 U8 P8 F8 G8 B8 O8 R8
  generalize ((w8.alloc (.cells #[.int .i64 0, .int .i64 0] 37)).alloc (.cells #[.int .i64 0, .int .i64 1, .int .i64 1] 3)).drewN q9 = w9 at *
  have f0 := F9.out.c 0 _ rfl
  have fl := F9.out.lt
  obtain ⟨gl, gg0, _, _, _⟩ := G9.out
  have p0 := P9.out.c 0 _ rfl
  have pl := P9.out.lt
  have t0 := U9.out.c 0 _ rfl
  have tl := U9.out.lt
  rw [HC0.out] at p0
  have CU := Lib.hid (fun W (hb : Below w9.heap.size w9 W) => countsOk_any (some ⟨g, 0, none⟩) cap (tr t') W ((O9.out.up hb).nods) HV'.out)
  rw [tr_len] at CU
  have k9 := KT9.out.c 0 _ rfl
  have kl9 := KT9.out.lt
  go_wp2_with fail
  refine (CU.out _ (Below.refl _ _)).mono ?_
  rintro e wA ⟨Rb, hRb, rfl, rowb, bA⟩
  have gA : Gr w9 (wA.alloc (.cells #[.int .i64 0, .int .i64 0] 37)) := Gr.trans bA (Gr.alloc wA _)
  have BA := Lib.hid (B9.out.trans (gA.mono B9.out.size))
  have KTA := Lib.hid (KT9.out.up gA)
  have KRA := Lib.hid (KR9.out.up gA)
  have UA := Lib.hid (U9.out.up gA)
  have RA := Lib.hid (R9.out.below gA R9.out.lt)
  have RB := Lib.hid (rowb.alloc (.cells #[.int .i64 0, .int .i64 0] 37))
  have IA := FBox.new wA 0 0 37
  clear f0 fl gl gg0 p0 pl t0 tl k9 kl9 bA gA rowb CU KT9 KR9 U9 P9 F9 G9 O9 R9 B9 HV' CC CA
  obtain ⟨il, i0, i1, _, _⟩ := IA
  have t0 := UA.out.c 0 _ rfl
  have tl := UA.out.lt
  have k0 := KTA.out.c 0 _ rfl
  have kl := KTA.out.lt
  have q1 : ((t'.length : Int) != (t'.length : Int)) = false := by simp
  have q2 : ((t.length : Int) != (t.length : Int)) = false := by simp
  have q3 : ¬ (t'.length : Int) < (t.length : Int) := by omega
  have q4 : ¬ t'.length < t.length := by omega
  go_wp2_with fail
  clear il i0 i1 t0 tl k0 kl q1 q2
  generalize hAl : wA.alloc (.cells #[.int .i64 0, .int .i64 0] 37) = wB at *
  clear hAl
  generalize wA.heap.size = nA at *
  have HSG := Lib.hid hsg
  clear hsg
  go_loopg [14, 15, 16] t'.length (fun gg s14 s15 _ wr => ∃ k : Nat, (k ≤ t'.length ∧ t'.length - k ≤ gg) ∧ s15 = .int .i64 k ∧ s14 = .int .i64 (part sg x k) ∧ wr = wB)
  case atStart => exact ⟨0, ⟨by omega, by omega⟩, rfl, by unfold part; simp, rfl⟩
  case round =>
    obtain ⟨k, ⟨hk, hg⟩, rfl, rfl, rfl⟩ := hrel
    have hk0 : (0 : Int) ≤ (k : Int) := Int.natCast_nonneg _
    by_cases hlt : k < t'.length
    · have hltz : (k : Int) < (t'.length : Int) := by omega
      have rbl := RB.out.lt
      have rb := RB.out.c k hlt
      have hsk := HS.out k
      have hsm := HL2.out k
      have ps := part_small HSG.out x k
      have os := one_small HSG.out x k
      have PS := Lib.hid (part_succ sg x k)
      generalize hpk : part sg x k = pk at *
      generalize sg * (oneIf (x : Int) k : Nat) = dk at *
      clear hpk
      by_cases hla : k < t.length
      · have hlaz : (k : Int) < (t.length : Int) := by omega
        have ral := RA.out.lt
        have ra := RA.out.c k hla
        have hsm1 := HL1.out k
        rw [if_pos hla] at hsk
        generalize refs (tr t') k = bv at *
        generalize refs (tr t) k = av at *
        have h1 : (av : Int) - 1 ≤ (bv : Int) := by omega
        have h2 : (bv : Int) ≤ (av : Int) + 1 := by omega
        have HE := Lib.hid (show pk + (bv : Int) - (av : Int) = part sg x (k + 1) by rw [← PS.out]; omega)
        clear hsk PS
        go_wp2_with fail
        go_roundg (t'.length - (k + 1))
        case measure => omega
        case rel => exact ⟨k + 1, ⟨by omega, by omega⟩, by go_num, by rw [HE.out], rfl⟩
      · have hlaz : ¬ (k : Int) < (t.length : Int) := by omega
        rw [if_neg hla] at hsk
        generalize refs (tr t') k = bv at *
        have h1 : (0 : Int) - 1 ≤ (bv : Int) := by omega
        have h2 : (bv : Int) ≤ (0 : Int) + 1 := by omega
        have h3 : (bv : Int) ≤ 1 := by omega
        have HE := Lib.hid (show pk + (bv : Int) - 0 = part sg x (k + 1) by rw [← PS.out]; omega)
        have HE2 := Lib.hid (show pk + (bv : Int) = part sg x (k + 1) by rw [← PS.out]; omega)
        clear hsk PS
        go_wp2_with fail
        go_roundg (t'.length - (k + 1))
        case measure => omega
        case rel => exact ⟨k + 1, ⟨by omega, by omega⟩, by go_num, by first | rw [HE.out] | rw [HE2.out], rfl⟩
    · obtain rfl : k = t'.length := by omega
      have hpt : part sg x t'.length = sg := by unfold part; rw [if_pos hx.1]; omega
      rw [hpt]
      clear hpt
      have u0 := KRA.out.c 0 _ rfl
      have ul := KRA.out.lt
      by_cases hk1 : r.k = 1 ∨ r.k = 2 ∨ r.k = 10
      · have e := HM.out.1 hk1
        subst e
        clear HM HS hks HSG
        rcases hk1 with e | e | e
        all_goals
          rw [e] at u0
          go_wp2
          go_ret
          exact ⟨rfl, BA.out⟩
      · by_cases hk8 : r.k = 8
        · have e := HM.out.2 hk8
          subst e
          rw [hk8] at u0
          clear HM HS hks HSG
          go_wp2
          go_ret
          exact ⟨rfl, BA.out⟩
        · obtain ⟨e, hll⟩ := hks hk1 hk8
          subst e
          have b1 : (r.k == 1) = false := by simp; omega
          have b2 : (r.k == 2) = false := by simp; omega
          have b10 : (r.k == 10) = false := by simp; omega
          have b8 : (r.k == 8) = false := by simp; omega
          have hsame : ∀ j, j < t.length → wr.cell? ⟨Rb, 0 + j, none⟩ = some (.int .i64 ((refs (tr t) j : Nat) : Int)) := fun j hj => by
            rw [Nat.zero_add, RB.out.c j (by rw [hll]; exact hj)]
            have := HS.out j
            rw [if_pos hj, Int.zero_mul, Int.add_zero] at this
            rw [this]
          have CI := Lib.hid (intsRows_any R 0 t.length Rb 0 t.length t.length (fun j => ((refs (tr t) j : Nat) : Int)) wr (by omega) (fun j hj => by rw [Nat.zero_add]; exact RA.out.c j hj) hsame)
          rw [hll]
          clear HM HS hks HSG hsame hk1 hk8
          go_wp2_with fail
          refine CI.out.mono ?_
          rintro e w10 ⟨rfl, q, rfl⟩
          go_wp2
          go_ret
          exact ⟨rfl, below_drewN BA.out q⟩

theorem lawFol_any (a : Option Addr) (c : Nat) (t : FT) (r : Rq) (vd va : Value) (w : World) (gm : GM w) (h : FNods w w.heap.size a c t) (hr : RqS w w.heap.size vd va r) :
    Calls Tryz.prog 10 #[.agg #[.slice a t.length c], rqV r vd va] w fun e w' => e = .returned (.bool true) ∧ Below w.heap.size w w' := by
  by_cases hh : (valT (tr t)).1 = 0 ∧ rqC r = 0
  · by_cases hc : (applyF t r).2.c = 0
    · exact lawFolOk_any a c t r vd va w gm h hr hh.1 hh.2 hc
    · exact lawFolErr_any a c t r vd va w gm h hr hh.1 hh.2 hc
  · by_cases hv : (valT (tr t)).1 = 0
    · exact lawFolBad2_any a c t r vd va w gm h hr hh hv
    · exact lawFolBad1_any a c t r vd va w gm h hr hh hv

end Go.Proofs.YtmbbmmnpkdfecaaGreatDoor
