/- Package memfs and what it calls, at this seat's translation.
   Condition: as each theorem states; this text: MfReply, MfSameR. -/
import Derived.Test.YtmbbmmnpkdfecaaGreatDoorMb26
import Derived.Test.YtmbbmmnpkdfecaaGreatDoorMb27
import Derived.Test.YtmbbmmnpkdfecaaGreatDoorMb28
import Derived.Test.YtmbbmmnpkdfecaaGreatDoorMb29

set_option linter.all false

/- reply: what a request answers. Conditions: the execution lies in memory as it reads; the number lies in the tree; the request passed its checks. -/

set_option linter.all false
namespace Go.Proofs.YtmbbmmnpkdfecaaGreatDoor
open Go.RowKit

theorem reply_any (X g cap : Nat) (t : FT) (r : Rq) (vd va : Value) (n : Nat) (w : World) (h : XR w X g cap t r vd va) (hn : n < t.length) (G : RqG r) :
    Calls Tryz.prog 35 #[.pointer (some ⟨X, 0, none⟩), .int .i64 (n : Int)] w (ReplyPost (replyF t r n) w) := by
  by_cases h3 : r.k = 3
  · exact reply3_any X g cap t r vd va n w h hn h3 G
  by_cases h6 : r.k = 6
  · exact reply6_any X g cap t r vd va n w h hn h6
  by_cases h8 : r.k = 8
  · exact reply8_any X g cap t r vd va n w h hn h8
  exact replyS_any X g cap t r vd va n w h hn h3 h6 h8

end Go.Proofs.YtmbbmmnpkdfecaaGreatDoor

/- The checker's equality at two replies that read the same; isEmpty. Conditions: they lie in memory as they read. -/

set_option linter.all false
namespace Go.Proofs.YtmbbmmnpkdfecaaGreatDoor
open Go.RowKit

set_option maxRecDepth 100000 in
set_option maxHeartbeats 3200000 in
theorem repliesSame_any (p : Rp) (d1 d2 n1 n2 : Value) (w : World) (B1 B2 : Nat) (hB1 : B1 ≤ w.heap.size) (hB2 : B2 ≤ w.heap.size) (b1 : Byts w B1 d1 p.d) (b2 : Byts w B2 d2 p.d) (s1 : Strs w B1 n1 p.ns) (s2 : Strs w B2 n2 p.ns) :
    Calls Tryz.prog 18 #[rpV p d1 n1, rpV p d2 n2] w fun e w' => e = .returned (.bool true) ∧ Below w.heap.size w w' := by
  have CS := Lib.hid (fun W (hb : Below w.heap.size w W) => strsSame_any n1 n2 p.ns W _ _ ((s1.more hB1).up hb) ((s2.more hB2).up hb))
  have CB1 := Lib.hid (fun W (hb : Below w.heap.size w W) => byts_str ((b1.more hB1).up hb))
  have CB2 := Lib.hid (fun W (hb : Below w.heap.size w W) => byts_str ((b2.more hB2).up hb))
  obtain ⟨d1a, d1c, rfl, hq0⟩ := id b1
  obtain ⟨d2a, d2c, rfl, hq1⟩ := id b2
  obtain ⟨n1a, n1c, rfl, hq2⟩ := id s1
  obtain ⟨n2a, n2c, rfl, hq3⟩ := id s2
  clear b1 b2 s1 s2 hq0 hq1 hq2 hq3 hB1 hB2
  unfold rpV
  obtain ⟨pc, pd, pn, ⟨si, sk, so, sz, sl, sv⟩⟩ := p
  simp only at CS CB1 CB2 ⊢
  generalize pd.length = ld at *
  generalize pn.length = ln at *
  have T := Lib.hid (two_new w [.int .i64 pc, .slice d1a ld d1c, .slice n1a ln n1c, .int .i64 si, .int .i64 sk, .int .i64 so, .int .i64 sz, .int .i64 sl, .int .i64 sv] [.int .i64 pc, .slice d2a ld d2c, .slice n2a ln n2c, .int .i64 si, .int .i64 sk, .int .i64 so, .int .i64 sz, .int .i64 sl, .int .i64 sv] 35 35)
  go_enter Tryz.func18, Tryz.ntmps18
  go_upto_region 1 with fail
  generalize (w.alloc (.cells #[.int .i64 pc, .slice d1a ld d1c, .slice n1a ln n1c, .int .i64 si, .int .i64 sk, .int .i64 so, .int .i64 sz, .int .i64 sl, .int .i64 sv] 35)).alloc (.cells #[.int .i64 pc, .slice d2a ld d2c, .slice n2a ln n2c, .int .i64 si, .int .i64 sk, .int .i64 so, .int .i64 sz, .int .i64 sl, .int .i64 sv] 35) = w2 at *
  generalize w.heap.size + 1 = N at *
  obtain ⟨tb, t1, t2⟩ := T.out
  have HB := Lib.hid tb
  have k0 := t1.c 0 _ rfl
  have m0 := t2.c 0 _ rfl
  have k1 := t1.c 1 _ rfl
  have m1 := t2.c 1 _ rfl
  have k2 := t1.c 2 _ rfl
  have m2 := t2.c 2 _ rfl
  have k3 := t1.c 3 _ rfl
  have m3 := t2.c 3 _ rfl
  have k4 := t1.c 4 _ rfl
  have m4 := t2.c 4 _ rfl
  have k5 := t1.c 5 _ rfl
  have m5 := t2.c 5 _ rfl
  have k6 := t1.c 6 _ rfl
  have m6 := t2.c 6 _ rfl
  have k7 := t1.c 7 _ rfl
  have m7 := t2.c 7 _ rfl
  have k8 := t1.c 8 _ rfl
  have m8 := t2.c 8 _ rfl
  have kl := t1.lt
  have ml := t2.lt
  have kc1 := CB1.out w2 tb
  have kc2 := CB2.out w2 tb
  clear tb t1 t2 T CB1 CB2
  generalize toB pd = sd at *
  go_wp2_with fail
  refine (CS.out _ HB.out).mono ?_
  rintro e z1 ⟨rfl, q1, rfl⟩
  go_wp2
  go_ret
  exact ⟨rfl, below_drewN HB.out _⟩

end Go.Proofs.YtmbbmmnpkdfecaaGreatDoor
