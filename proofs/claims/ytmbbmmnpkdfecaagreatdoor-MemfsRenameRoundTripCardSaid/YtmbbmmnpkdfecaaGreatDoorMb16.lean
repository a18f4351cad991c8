/- Package memfs and what it calls, at this seat's translation.
   Condition: as each theorem states; this text: MfAdd. -/
import Derived.Test.YtmbbmmnpkdfecaaGreatDoorMb15

set_option linter.all false

/- addEntry and removeEntry. Conditions: the execution is the call's own; the place's parent is an inode of the tree whose entries are sorted; there is room below the machine's sizes. -/

set_option linter.all false
namespace Go.Proofs.YtmbbmmnpkdfecaaGreatDoor
open Go.RowKit

def addF (t : FT) (p : Nat) (e : DE) : FT := chI t p (fun x => { x with es := insE x.es e })
def takF (t : FT) (p : Nat) (nm : ByteArray) : FT := chI t p (fun x => { x with es := delE x.es nm })

set_option maxRecDepth 100000 in
set_option maxHeartbeats 6400000 in
theorem addEntry_any (base X g cap : Nat) (sl : Nat → Sl) (t : FT) (r : Rq) (vd va : Value) (a : Pl) (n : Int) (w : World) (h : XO w base X g cap sl t r vd va) (hp : a.p < t.length) (hs : SrtE (ino t a.p).es) (hl : (ino t a.p).es.length ≤ 900) (hf : DE.fits ⟨a.n, n⟩) :
    Calls Tryz.prog 126 #[.pointer (some ⟨X, 0, none⟩), plV a, .int .i64 n] w fun e w' => e = .returned (.tuple #[]) ∧ MutP base X r vd va (addF t a.p ⟨a.n, n⟩) w w' := by
  have H := Lib.hid h
  have hb := h.base
  obtain ⟨ea, ec, hse⟩ := own_slice (h.ot.r a.p hp).e
  have HSE := Lib.hid hse
  have x0 := h.xr.b.c 0 _ rfl
  have xl := h.xr.b.lt
  have c2 : w.cell? ⟨g, a.p * 8 + 2, none⟩ = some (.slice ea (ino t a.p).es.length ec) := (h.ot.c a.p hp 2 _ rfl).trans (by rw [hse])
  have f2 := h.ot.frozen (a.p * 8 + 2)
  have hg := h.ot.lt.2
  have nz : (a.p : Int) < (t.length : Int) := by omega
  have n0 : (0 : Int) ≤ (a.p : Int) := Int.natCast_nonneg _
  have h40 := h.len
  have CI := Lib.hid (fun Z (hZ : Below w.heap.size w Z) => (H.out.up hZ).ins hp ⟨a.n, n⟩ (lowE (ino t a.p).es a.n) (by unfold lowE; exact List.countP_le_length) hl hf)
  rw [hse] at CI
  have CF := Lib.hid (fun W (hB : Below w.heap.size w W) => Mfind_any (.slice ea (ino t a.p).es.length ec) (ino t a.p).es a.n W (by rw [← hse]; exact ((((h.up hB).ot.r a.p hp).nodS ((h.up hB).ot.fit a.p hp)).es)) hs)
  have B0 := Lib.hid (show Below w.heap.size w (w.alloc (.cells #[.int .i64 (a.p : Int), .string a.n, .int .i64 a.i] 160)) from (Below.refl _ _).alloc (Nat.le_refl _) _)
  have P00 := Lib.hid (show PB (w.alloc (.cells #[.int .i64 (a.p : Int), .string a.n, .int .i64 a.i] 160)) w.heap.size a from PB.new w a _)
  have x0' := (B0.out.cell (p := ⟨X, 0, none⟩) xl).trans x0
  have c2' := (B0.out.cell (p := ⟨g, a.p * 8 + 2, none⟩) hg).trans c2
  clear h hse hb x0 c2 f2
  have HS := Lib.hid hs
  have HL := Lib.hid hl
  have HF := Lib.hid hf
  clear hs hl hf
  generalize hm : (ino t a.p).es.length = m at *
  have HM := Lib.hid hm
  clear hm
  unfold plV
  go_enter Tryz.func126, Tryz.ntmps126
  go_upto_region 1 with fail
  generalize w.alloc (.cells #[.int .i64 (a.p : Int), .string a.n, .int .i64 a.i] 160) = w1 at *
  obtain ⟨q0, q1, q2, q3, qf0, qf1, qf2⟩ := P00.out
  have xl1 := Nat.lt_of_lt_of_le xl B0.out.size
  have hg1 := Nat.lt_of_lt_of_le hg B0.out.size
  clear xl hg
  generalize t.length = L at *
  go_quiet (fail)
  go_upto_region 2 with fail
  go_region_with (go_at_call 158; refine (CF.out _ (below_drewN B0.out _)).mono ?_; rintro e z ⟨rfl, hz⟩)
  all_goals
    go_upto_region 3 with fail
    have hB9 := (below_drewN B0.out (nq + 1))
    have BZ := Lib.hid (hB9.trans (hz.mono hB9.size))
    clear hB9
    have pz := (hz.cell (p := ⟨w.heap.size, 1, none⟩) q0).trans q2
    have y0 := (hz.cell (p := ⟨X, 0, none⟩) xl1).trans x0'
    have y2 := (hz.cell (p := ⟨g, a.p * 8 + 2, none⟩) hg1).trans c2'
    clear q0 q1 q2 q3 qf0 qf1 qf2 xl1 hg1 c2' x0' hz CF
    have HB9 := Lib.hid (show Below z.heap.size z (z.drew.alloc (.cells #[.string a.n, .int .i64 n] 93)) from (Below.refl _ _).drew.alloc (Nat.le_refl _) _)
    have pz9 := (HB9.out.cell (p := ⟨w.heap.size, 1, none⟩) (block_lt_of_cell pz)).trans pz
    have y09 := (HB9.out.cell (p := ⟨X, 0, none⟩) (block_lt_of_cell y0)).trans y0
    have y29 := (HB9.out.cell (p := ⟨g, a.p * 8 + 2, none⟩) (block_lt_of_cell y2)).trans y2
    have zg : g < z.heap.size := block_lt_of_cell y2
    have zX : X < z.heap.size := block_lt_of_cell y0
    have zp : w.heap.size < z.heap.size := block_lt_of_cell pz
    have HI := Lib.hid (CI.out z BZ.out _ z.heap.size 93 HB9.out (Nat.le_refl _) (heap_alloc_last' z.drew _))
    have HP := Lib.hid (show ∀ (y : World) sl', XO y base X g cap sl' (t.set a.p { ino t a.p with es := (ino t a.p).es.take (lowE (ino t a.p).es a.n) ++ ⟨a.n, n⟩ :: (ino t a.p).es.drop (lowE (ino t a.p).es a.n) }) r vd va → Below base z y ∧ Typ z y → MutP base X r vd va (addF t a.p ⟨a.n, n⟩) w y from
      fun y sl' h1 h2 => ⟨g, cap, sl', h1, (BZ.out.mono H.out.base.1).trans h2.1, (Typ.of_below BZ.out).trans h2.2⟩)
    clear CI
    generalize lowE (ino t a.p).es a.n = lo at *
    generalize hes : (ino t a.p).es.take lo ++ (⟨a.n, n⟩ : DE) :: (ino t a.p).es.drop lo = es' at *
    clear hes
    generalize hel : es'.length = m' at *
    go_region_with (go_at_call 159; refine HI.out.mono ?_; rintro e y ⟨a', c', rfl, hy1, hy2, hyo, hyb⟩; rw [HSE.out] at hy1; rw [hel] at hyo hyb)
    all_goals
      go_wp2
      exact ⟨rfl, .tuple #[], by simp [results, Tryz.results126, go_sem]; try rfl, rfl, HP.out _ _ hyo hyb⟩

set_option maxRecDepth 100000 in
set_option maxHeartbeats 6400000 in
theorem removeEntry_any (base X g cap : Nat) (sl : Nat → Sl) (t : FT) (r : Rq) (vd va : Value) (a : Pl) (w : World) (h : XO w base X g cap sl t r vd va) (hp : a.p < t.length) (hs : SrtE (ino t a.p).es) (hlo : lowE (ino t a.p).es a.n < (ino t a.p).es.length) :
    Calls Tryz.prog 132 #[.pointer (some ⟨X, 0, none⟩), plV a] w fun e w' => e = .returned (.tuple #[]) ∧ MutP base X r vd va (takF t a.p a.n) w w' := by
  have H := Lib.hid h
  have hb := h.base
  obtain ⟨ea, ec, hse⟩ := own_slice (h.ot.r a.p hp).e
  have HSE := Lib.hid hse
  have x0 := h.xr.b.c 0 _ rfl
  have xl := h.xr.b.lt
  have c2 : w.cell? ⟨g, a.p * 8 + 2, none⟩ = some (.slice ea (ino t a.p).es.length ec) := (h.ot.c a.p hp 2 _ rfl).trans (by rw [hse])
  have f2 := h.ot.frozen (a.p * 8 + 2)
  have hg := h.ot.lt.2
  have nz : (a.p : Int) < (t.length : Int) := by omega
  have n0 : (0 : Int) ≤ (a.p : Int) := Int.natCast_nonneg _
  have h40 := h.len
  have CI := Lib.hid (fun Z (hZ : Below w.heap.size w Z) => (H.out.up hZ).del hp (lowE (ino t a.p).es a.n) hlo)
  rw [hse] at CI
  have CF := Lib.hid (fun W (hB : Below w.heap.size w W) => Mfind_any (.slice ea (ino t a.p).es.length ec) (ino t a.p).es a.n W (by rw [← hse]; exact ((((h.up hB).ot.r a.p hp).nodS ((h.up hB).ot.fit a.p hp)).es)) hs)
  have B0 := Lib.hid (show Below w.heap.size w (w.alloc (.cells #[.int .i64 (a.p : Int), .string a.n, .int .i64 a.i] 160)) from (Below.refl _ _).alloc (Nat.le_refl _) _)
  have P00 := Lib.hid (show PB (w.alloc (.cells #[.int .i64 (a.p : Int), .string a.n, .int .i64 a.i] 160)) w.heap.size a from PB.new w a _)
  have x0' := (B0.out.cell (p := ⟨X, 0, none⟩) xl).trans x0
  have c2' := (B0.out.cell (p := ⟨g, a.p * 8 + 2, none⟩) hg).trans c2
  clear h hse hb x0 c2 f2
  have HS := Lib.hid hs
  have hl9 := (H.out.ot.fit a.p hp).le
  have hlo9 : lowE (ino t a.p).es a.n ≤ 1000 := by omega
  have HLO := Lib.hid hlo
  clear hs hlo hl9
  generalize hm : (ino t a.p).es.length = m at *
  have HM := Lib.hid hm
  clear hm
  unfold plV
  go_enter Tryz.func132, Tryz.ntmps132
  go_upto_region 1 with fail
  generalize w.alloc (.cells #[.int .i64 (a.p : Int), .string a.n, .int .i64 a.i] 160) = w1 at *
  obtain ⟨q0, q1, q2, q3, qf0, qf1, qf2⟩ := P00.out
  have xl1 := Nat.lt_of_lt_of_le xl B0.out.size
  have hg1 := Nat.lt_of_lt_of_le hg B0.out.size
  clear xl hg
  generalize t.length = L at *
  go_quiet (fail)
  go_upto_region 2 with fail
  go_region_with (go_at_call 158; refine (CF.out _ (below_drewN B0.out _)).mono ?_; rintro e z ⟨rfl, hz⟩)
  all_goals
    have hB9 := (below_drewN B0.out (nq + 1))
    have BZ := Lib.hid (hB9.trans (hz.mono hB9.size))
    clear hB9
    have y2 := (hz.cell (p := ⟨g, a.p * 8 + 2, none⟩) hg1).trans c2'
    clear q0 q1 q2 q3 qf0 qf1 qf2 xl1 hg1 c2' x0' hz CF
    have HI := Lib.hid (CI.out z BZ.out z (Below.refl _ _))
    have HP := Lib.hid (show ∀ (y : World) sl', XO y base X g cap sl' (t.set a.p { ino t a.p with es := (ino t a.p).es.take (lowE (ino t a.p).es a.n) ++ (ino t a.p).es.drop (lowE (ino t a.p).es a.n + 1) }) r vd va → Below base z y ∧ Typ z y → MutP base X r vd va (takF t a.p a.n) w y from
      fun y sl' h1 h2 => ⟨g, cap, sl', h1, (BZ.out.mono H.out.base.1).trans h2.1, (Typ.of_below BZ.out).trans h2.2⟩)
    clear CI HLO
    generalize lowE (ino t a.p).es a.n = lo at *
    generalize hes : (ino t a.p).es.take lo ++ (ino t a.p).es.drop (lo + 1) = es' at *
    clear hes
    generalize hel : es'.length = m' at *
    have hwl : IntKind.i64.wrap ((lo : Int) + 1) = (lo : Int) + 1 := IntWalk.i64_in _ (by omega)
    go_wp2_with (go_at_call 165; refine HI.out.mono ?_; rintro e y ⟨a', c', rfl, hy1, hy2, hyo, hyb⟩; rw [HSE.out] at hy1; rw [hel] at hyo hyb)
    exact ⟨rfl, .tuple #[], by simp [results, Tryz.results132, go_sem]; try rfl, rfl, HP.out _ _ hyo hyb⟩

end Go.Proofs.YtmbbmmnpkdfecaaGreatDoor
