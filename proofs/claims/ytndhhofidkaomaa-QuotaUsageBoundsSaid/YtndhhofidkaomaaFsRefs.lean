/- referenceCheck: how many entries refer to each inode, and the function that it returns. Conditions: the tree's inodes are valid by themselves; its cells lie in memory as they read. -/
import Derived.Test.YtndhhofidkaomaaFsCells

set_option linter.all false
namespace Go.Proofs.Ytndhhofidkaomaa
open Go.RowKit

def cntE (l : List DE) (n : Nat) : Nat := l.countP fun e => decide (e.i = (n : Int))
theorem cntE_snoc (l : List DE) (e : DE) (n : Nat) : cntE (l ++ [e]) n = cntE l n + if e.i = (n : Int) then 1 else 0 := by
  unfold cntE
  rw [List.countP_append]
  by_cases h : e.i = (n : Int) <;> simp [h]
/-- The entries ahead of entry k of inode i. -/
def upto (t : Tr) (i k : Nat) : List DE := (t.take i).flatMap (·.es) ++ (kids t i).take k
theorem upto_zero (t : Tr) : upto t 0 0 = [] := by unfold upto; simp
theorem upto_succ {t : Tr} {i k : Nat} (h : k < (kids t i).length) : upto t i (k + 1) = upto t i k ++ [(kids t i).getD k D0] := by
  unfold upto
  rw [List.take_succ_eq_append_getElem h, deD h, List.append_assoc]
theorem upto_next {t : Tr} {i : Nat} (h : i < t.length) : upto t i (kids t i).length = upto t (i + 1) 0 := by
  unfold upto
  rw [List.take_length, List.take_succ_eq_append_getElem h, List.flatMap_append, List.take_zero, List.append_nil]
  simp [kids, nod_at h]
theorem upto_all (t : Tr) (n : Nat) : cntE (upto t t.length 0) n = refs t n := by
  unfold upto refs cntE
  rw [List.take_length, List.take_zero, List.append_nil]
theorem cnt_le {t : Tr} (h : Ok1 t) (i k n : Nat) (hi : i ≤ t.length) : cntE (upto t i k) n ≤ 1000 := by
  have h1 : cntE (upto t i k) n ≤ (upto t i k).length := List.countP_le_length
  have h2 : (upto t i k).length ≤ 16 * i + 16 := by
    unfold upto
    rw [List.length_append, List.length_take]
    have h3 : ((t.take i).flatMap (·.es)).length ≤ (t.take i).length * 16 := by
      rw [List.length_flatMap]
      have := sum_le_mul (l := (t.take i).map fun x => x.es.length) (m := 16) (by
        intro x hx
        obtain ⟨y, hy, rfl⟩ := List.mem_map.1 hx
        obtain ⟨j, hj, rfl⟩ := List.mem_iff_getElem.1 (List.mem_of_mem_take hy)
        rw [← nod_at hj]
        exact (h.fine j).len)
      simpa using this
    have h4 := (h.fine i).len
    change (kids t i).length ≤ 16 at h4
    rw [List.length_take] at h3
    omega
  have := h.le
  omega

set_option maxRecDepth 100000 in
set_option maxHeartbeats 1600000 in
theorem refCheck1_any (a : Option Addr) (c : Nat) (t : Tr) (n pt pr R : Nat) (w : World) (h1 : Ok1 t) (h : Nods w w.heap.size a c t) (hp : One w pt (.slice a t.length c)) (hr : One w pr (.slice (some ⟨R, 0, none⟩) t.length t.length)) (hR : Row w R t.length (fun j => .int .i64 (refs t j : Nat))) (hn : n < t.length) :
    Calls Try.prog 47 #[.int .i64 (n : Int), .pointer (some ⟨pt, 0, none⟩), .pointer (some ⟨pr, 0, none⟩)] w fun e w' => e = .returned (.int .i64 (codeLk t n)) ∧ Below w.heap.size w w' := by
  obtain ⟨b, o, ve, vd, va, vx, rfl, hb, hc, hs⟩ := h.one hn
  have hk := (h1.fine n).kind
  have nlz : (n : Int) < (t.length : Int) := by omega
  have nz : (0 : Int) ≤ (n : Int) := Int.natCast_nonneg _
  have HF := Lib.hid (show codeLk t n = if ((nod t n).k = 1 ∧ n ≠ 0 ∧ refs t n ≠ 1) ∨ ((nod t n).k = 2 ∧ refs t n = 0) then 11 else 0 from rfl)
  have h0 := hc.c0
  have hpc := hp.c0
  have hrc := hr.c0
  have hRc := hR.c n hn
  clear hc hs h hp hr hR h1
  generalize codeLk t n = r at *
  generalize refs t n = q at *
  generalize (nod t n).k = k at *
  rcases hk with rfl | rfl | rfl
  · rw [if_neg (by rintro (h | h); exact absurd h.1 (by decide); exact absurd h.1 (by decide))] at HF
    go_enter Try.func47, Try.ntmps47
    go_wp2
    go_ret
    exact ⟨ret_int HF.out.symm, Below.refl _ _⟩
  · by_cases hn0 : n = 0
    · subst hn0
      rw [if_neg (by rintro (h | h); exact h.2.1 rfl; exact absurd h.1 (by decide))] at HF
      have hx : (((0 : Nat) : Int) != 0) = false := by decide
      have h0 : w.cell? ⟨b, o, none⟩ = some (.int .i64 1) := by simpa using h0
      go_enter Try.func47, Try.ntmps47
      go_wp2
      go_ret
      exact ⟨ret_int HF.out.symm, Below.refl _ _⟩
    · have hx : ((n : Int) != 0) = true := by simpa using hn0
      by_cases hq : q = 1
      · subst hq
        rw [if_neg (by rintro (h | h); exact h.2.2 rfl; exact absurd h.1 (by decide))] at HF
        clear hn0
        go_enter Try.func47, Try.ntmps47
        go_wp2
        go_ret
        exact ⟨ret_int HF.out.symm, Below.refl _ _⟩
      · have hy : ((q : Int) != 1) = true := by rw [bne_iff_ne]; omega
        rw [if_pos (.inl ⟨rfl, hn0, hq⟩)] at HF
        clear hn0 hq
        go_enter Try.func47, Try.ntmps47
        go_wp2
        go_ret
        exact ⟨ret_int HF.out.symm, Below.refl _ _⟩
  · by_cases hq : q = 0
    · subst hq
      rw [if_pos (.inr ⟨rfl, rfl⟩)] at HF
      have hy : (((0 : Nat) : Int) == 0) = true := by decide
      go_enter Try.func47, Try.ntmps47
      go_wp2
      go_ret
      exact ⟨ret_int HF.out.symm, Below.refl _ _⟩
    · have hy : ((q : Int) == 0) = false := by rw [beq_eq_false_iff_ne]; omega
      rw [if_neg (by rintro (h | h); exact absurd h.1 (by decide); exact hq h.2)] at HF
      clear hq
      go_enter Try.func47, Try.ntmps47
      go_wp2
      go_ret
      exact ⟨ret_int HF.out.symm, Below.refl _ _⟩

theorem eg_ref1 : ∀ args w, (callFunc 47 args).run Try.prog w = .ok (.enter 47 args) w := enters_of Try.func47 (by kernel_rfl) rfl
/-- What holds while the entries are counted. -/
structure RInv (w wr : World) (t : Tr) (a : Option Addr) (c pt R pr i k : Nat) : Prop where
  b : Below w.heap.size w wr
  tb : One wr pt (.slice a t.length c)
  rb : One wr pr (.slice (some ⟨R, 0, none⟩) t.length t.length)
  row : Row wr R t.length (fun j => .int .i64 (cntE (upto t i k) j : Nat))
theorem RInv.step {w wr z : World} {t : Tr} {a : Option Addr} {c pt R pr i k : Nat} (h : RInv w wr t a c pt R pr i k) (hb : Below wr.heap.size wr z) : RInv w z t a c pt R pr i k :=
  ⟨h.b.trans (hb.mono h.b.size), h.tb.below hb h.tb.lt, h.rb.below hb h.rb.lt, h.row.below hb h.row.lt⟩
theorem RInv.cnt {w wr : World} {t : Tr} {a : Option Addr} {c pt R pr i k : Nat} (h : RInv w wr t a c pt R pr i k) (hw : w.heap.size ≤ R) (h1 : R ≠ pt) (h2 : R ≠ pr) {x : ByteArray} {m : Nat} (hk : k < (kids t i).length) (he : (kids t i).getD k D0 = ⟨x, (m : Int)⟩) (hm : m < t.length) {u : Int} (hu : u = (cntE (upto t i k) m : Nat) + 1) :
    RInv w (wr.setCell ⟨R, m, none⟩ (.int .i64 u)) t a c pt R pr i (k + 1) := by
  refine ⟨h.b.setCell hw _, h.tb.far (by simpa using h1.symm) _, h.rb.far (by simpa using h2.symm) _, (h.row.put hm _).ext fun j hj => ?_⟩
  rw [upto_succ hk, cntE_snoc, he]
  simp only
  by_cases e : j = m
  · subst e; rw [if_pos rfl, if_pos rfl, hu]; congr 1
  · rw [if_neg e, if_neg (by omega)]; congr 1

set_option maxRecDepth 100000 in
set_option maxHeartbeats 3200000 in
theorem referenceCheck_any (a : Option Addr) (c : Nat) (t : Tr) (w : World) (h1 : Ok1 t) (h : Nods w w.heap.size a c t) :
    Calls Try.prog 32 #[.agg #[.slice a t.length c]] w (CheckPost t 1 w) := by
  have H := Lib.hid h
  have H1 := Lib.hid h1
  have hmk := make_ints t.length h1.le
  have h40 := h1.le
  clear h h1
  go_enter Try.func32, Try.ntmps32
  go_wp2_with fail
  have I0 := Lib.hid (show RInv w (((w.alloc (.cells #[.slice a t.length c] 24)).alloc (.cells (madeCells #[.int .i64 0] t.length) 3)).alloc (.cells #[.slice (some ⟨w.heap.size + 1, 0, none⟩) t.length t.length] 25)) t a c w.heap.size (w.heap.size + 1) (w.heap.size + 1 + 1) 0 0 from
    ⟨(((Below.refl _ _).alloc (Nat.le_refl _) _).alloc (by first | omega | (simp; done) | (simp; omega)) _).alloc (by first | omega | (simp; done) | (simp; omega)) _, ((One.new w _ _).alloc _).alloc _, (One.new ((w.alloc _).alloc _) _ _).at_ (by simp), (((row_new (w.alloc _) t.length (.int .i64 0) _).alloc _).at_ (by simp)).ext (fun j _ => by rw [upto_zero]; rfl)⟩)
  have o1 : w.heap.size < w.heap.size + 1 := by omega
  have o2 : w.heap.size + 1 < w.heap.size + 1 + 1 := by omega
  generalize w.heap.size + 1 + 1 = pr at *
  generalize w.heap.size + 1 = R at *
  go_loopg [5, 7, 15] t.length (fun gg _ _ s15 wr => ∃ i : Nat, i ≤ t.length ∧ t.length - i ≤ gg ∧ s15 = .int .i64 i ∧ Aside (RInv w wr t a c w.heap.size R pr i 0))
  case atStart => exact ⟨0, by omega, by omega, rfl, I0.out⟩
  case round =>
    obtain ⟨i, hi, hg, rfl, I⟩ := hrel
    clear I0
    obtain ⟨w2, rfl⟩ : ∃ w2 : World, w2 = wr := ⟨_, rfl⟩
    by_cases hlt : i < t.length
    · have hltz : (i : Int) < (t.length : Int) := by omega
      have hm9 : t.length - (i + 1) < t.length - i := Nat.sub_lt_sub_left hlt (Nat.lt_succ_self i)
      obtain ⟨b, o, ve, vd, va, vx, rfl, hb, hc, hs⟩ := (H.out.below I.out.b).one hlt
      obtain ⟨ea, ec, rfl, hec, hel, hef, hex⟩ := hs.es
      obtain ⟨da, dc, rfl, _⟩ := hs.dl
      obtain ⟨aa, acp, rfl, _⟩ := hs.ac
      obtain ⟨xa, xc, rfl, _⟩ := hs.xs
      have h0 := hc.c0
      have h1 := hc.c1
      have h2 := hc.c2
      have h3 := hc.c3
      have h4 := hc.c4
      have h5 := hc.c5
      have h6 := hc.c6
      have h7 := hc.c7
      change (kids t i).length ≤ ec at hec
      change (kids t i).length ≤ 35184372088832 at hel
      change w2.cell? ⟨b, o + i * 8 + 2, none⟩ = some (.slice ea (kids t i).length ec) at h2
      have HEX := Lib.hid (show 0 < (kids t i).length → ∃ b o, ea = some ⟨b, o, none⟩ ∧ b < w.heap.size ∧ ∀ j, j < (kids t i).length →
        w2.cell? ⟨b, o + j * 2, none⟩ = some (.string ((kids t i).getD j D0).n) ∧ w2.cell? ⟨b, o + j * 2 + 1, none⟩ = some (.int .i64 ((kids t i).getD j D0).i) from hex)
      have HKD := Lib.hid (fun k (hk : k < (kids t i).length) => H1.out.kid (show (kids t i).getD k D0 ∈ kids t i from by rw [deD hk]; exact List.getElem_mem hk))
      have HCL := Lib.hid (fun k q => cnt_le H1.out i k q hi)
      have HUN := Lib.hid (upto_next hlt)
      clear hc hs hef hex
      have hbs := I.out.b.size
      generalize hm : (kids t i).length = m at *
      generalize (nod t i).k = gk at *
      generalize (nod t i).o = go at *
      generalize (nod t i).dl = gd at *
      generalize (nod t i).ac.length = ga at *
      generalize (nod t i).xs.length = gx at *
      generalize (nod t i).q = gq at *
      generalize (nod t i).v = gv at *
      have I1 := Lib.hid (I.out.step ((Below.refl w2.heap.size w2).alloc (Nat.le_refl _) (.cells #[.int .i64 gk, .int .i64 go, .slice ea m ec, .slice da gd dc, .slice aa ga acp, .slice xa gx xc, .int .i64 gq, .int .i64 gv] 47)))
      have W1 := Lib.hid ((Below.refl w2.heap.size w2).alloc (Nat.le_refl _) (.cells #[.int .i64 gk, .int .i64 go, .slice ea m ec, .slice da gd dc, .slice aa ga acp, .slice xa gx xc, .int .i64 gq, .int .i64 gv] 47))
      go_wp2_with fail
      go_loopg [7, 22] m (fun gg _ s22 wq => ∃ k : Nat, k ≤ m ∧ m - k ≤ gg ∧ s22 = .int .i64 k ∧ Aside (Below w.heap.size w2 wq) ∧ Aside (RInv w wq t (some ⟨b, o, none⟩) c w.heap.size R pr i k))
      case atStart => exact ⟨0, by omega, by omega, rfl, W1.out.mono hbs, I1.out⟩
      case round =>
        obtain ⟨k, hk, hg2, rfl, WQ, IQ⟩ := hrel
        clear I1 W1
        by_cases hlk : k < m
        · have hlkz : (k : Int) < (m : Int) := by omega
          obtain ⟨be, oe, rfl, hbe, hje⟩ := HEX.out (by omega)
          have g0 := (WQ.out.cell (p := ⟨be, oe + k * 2, none⟩) hbe).trans (hje k hlk).1
          have g1 := (WQ.out.cell (p := ⟨be, oe + k * 2 + 1, none⟩) hbe).trans (hje k hlk).2
          have hkd := HKD.out k hlk
          have q2 := hkd.2.1
          have q3 := hkd.2.2.1
          clear hkd
          have hcb := fun q => HCL.out k q
          clear hje
          generalize hy : (kids t i).getD k D0 = e at *
          obtain ⟨x, ei⟩ := e
          simp only at g0 g1 q2 q3
          obtain ⟨n2, rfl⟩ := Int.eq_ofNat_of_zero_le (Int.le_of_lt q2)
          simp only [Int.toNat_natCast] at q3
          have Y := Lib.hid hy
          clear hy q2
          have IX := Lib.hid (IQ.out.step ((Below.refl wr.heap.size wr).alloc (Nat.le_refl _) (.cells #[.string x, .int .i64 (n2 : Int)] 49)))
          have hcq := hcb n2
          have rc := IX.out.row.c n2 q3
          have rz := IX.out.row.fz n2
          have rl := IX.out.row.lt
          have rb := IX.out.rb.c0
          have rbl := IX.out.rb.lt
          clear hcb
          generalize hq : cntE (upto t i k) n2 = q at *
          have HQ := Lib.hid hq
          clear hq
          have n2z : (n2 : Int) < (t.length : Int) := by omega
          have n20 : (0 : Int) ≤ (n2 : Int) := Int.natCast_nonneg _
          go_wp2
          go_roundg (m - (k + 1))
          case measure => omega
          case rel =>
            refine ⟨k + 1, by omega, by omega, by go_num, ?_, IX.out.cnt (by omega) (by omega) (by omega) (by omega) Y.out q3 (by rw [HQ.out])⟩
            exact (show Below w.heap.size w2 _ from ((WQ.out.alloc (Nat.le_trans hbs WQ.out.size) _).setCell (by first | omega | (simp; done) | (simp; omega)) _))
        · obtain rfl : k = m := by omega
          have IE := Lib.hid (show RInv w wr t (some ⟨b, o, none⟩) c w.heap.size R pr (i + 1) 0 from ⟨IQ.out.b, IQ.out.tb, IQ.out.rb, by rw [← HUN.out]; exact IQ.out.row⟩)
          go_wp2
          go_roundg (t.length - (i + 1))
          case measure => exact Nat.lt_of_lt_of_le hm9 hg
          case rel => exact ⟨i + 1, by omega, by omega, by go_num, IE.out⟩
    · obtain rfl : i = t.length := by omega
      go_wp2
      go_ret
      refine ⟨_, _, rfl, I.out.b, eg_ref1, fun W hW n hn => ?_⟩
      have Z := I.out.step hW
      exact refCheck1_any a c t n w.heap.size pr R W H1.out (H.out.up Z.b) Z.tb Z.rb (Z.row.ext fun j _ => by rw [upto_all]) hn

end Go.Proofs.Ytndhhofidkaomaa
