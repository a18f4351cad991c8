/- The reference's Perm at every seed and every size up to 200: the shuffled row and the next seed. Conditions: as the theorem states. -/
import Derived.Test.YtiknheoeldboaaaRngShuf

set_option linter.all false
namespace Go.Proofs.Ytiknheoeldboaaa
open Go.RowKit

def upto (k : Nat) : List Int := (List.range k).map Int.ofNat
theorem upto_len (k : Nat) : (upto k).length = k := by simp [upto]
theorem upto_succ (k : Nat) : upto k ++ [(k : Int)] = upto (k + 1) := by simp [upto, List.range_succ]
theorem upto_get {k j : Nat} (h : j < k) : (upto k).getD j 0 = (j : Int) := by simp [upto, List.getD_eq_getElem?_getD, h]

/-- What the reference's Perm returns. -/
def RefPermPost (s : Int) (n : Nat) (w : World) (e : Ending) (w' : World) : Prop :=
  Below w.heap.size w w' ∧ ((n = 0 ∧ ∃ a c, e = .returned (.tuple #[.slice a 0 c, .int .i64 s])) ∨
    (0 < n ∧ ∃ R c, w.heap.size ≤ R ∧ e = .returned (.tuple #[.slice (some ⟨R, 0, none⟩) n c, .int .i64 (shuf (n - 1) s (fun j => (j : Int))).2]) ∧ Row w' R n (fun j => .int .i64 ((shuf (n - 1) s (fun j => (j : Int))).1 j))))

set_option maxHeartbeats 3200000 in
theorem refPerm_any (s : Int) (n : Nat) (w : World) (hs0 : 0 ≤ s) (hs1 : s < 4294967296) (hn : n ≤ 200) :
    Calls Try.prog 16 #[.int .i64 s, .int .i64 (n : Int)] w (RefPermPost s n w) := by
  have hnz : (0 : Int) ≤ (n : Int) := Int.natCast_nonneg _
  have hn2 : (n : Int) ≤ 200 := by omega
  have ON := Lib.hid (World.ownsRow_nil w w.heap.size 3 1)
  go_enter Try.func16, Try.ntmps16
  go_wp2_with fail
  go_loopg [6, 7] n (fun gg s6 s7 wr => ∃ k : Nat, (k ≤ n ∧ n - k ≤ gg) ∧ s7 = .int .i64 k ∧ Aside (Below w.heap.size w wr) ∧ Aside (wr.ownsRow w.heap.size 3 1 s6 k (intL (upto k))))
  case atStart => exact ⟨0, ⟨by omega, by omega⟩, rfl, Below.refl _ _, ON.out⟩
  case round =>
    obtain ⟨k, ⟨hk, hg⟩, rfl, B3, O3⟩ := hrel
    rename_i s6 s7
    obtain ⟨sa, sc, rfl⟩ := own_formQ O3.out
    clear ON
    by_cases hlt : k < n
    · have hltz : (k : Int) < (n : Int) := by omega
      have hi0 : (0 : Int) ≤ (k : Int) := Int.natCast_nonneg _
      have hm9 : n - (k + 1) < n - k := Nat.sub_lt_sub_left hlt (Nat.lt_succ_self k)
      have BA := Lib.hid (B3.out.alloc B3.out.size (.cells #[.int .i64 (k : Int)] 3))
      have Q1 := Lib.hid (O3.out.alloc (.cells #[.int .i64 (k : Int)] 3))
      have Q2 := Lib.hid (show w.heap.size ≤ (wr.alloc (.cells #[.int .i64 (k : Int)] 3)).heap.size from BA.out.size)
      have Q3 := Lib.hid (show (wr.alloc (.cells #[.int .i64 (k : Int)] 3)).cell? ⟨wr.heap.size, 0, none⟩ = some (.int .i64 (k : Int)) by simp)
      have Q4 := Lib.hid (show k ≤ 100000 by omega)
      have LT := Lib.hid Q1.out.lt
      go_wp2_with (at_builtin; refine wpList_append_int rfl (.tmp 16) (.tmp 18) rfl w.heap.size (.slice sa k sc) k (upto k) rfl Q1.out wr.heap.size (k : Int) rfl Q3.out Q4.out Q2.out ?_; intro v4 W4 ho4 hg4 ha4; have B4 := Lib.hid (BA.out.grown hg4 Q2.out (fun q hq => (LT.out q hq).1)); have O4 := Lib.hid ho4; clear ho4 hg4 ha4)
      go_roundg (n - (k + 1))
      case measure => omega
      case rel => exact ⟨k + 1, ⟨by omega, by omega⟩, by go_num, B4.out, by rw [← upto_succ]; exact O4.out⟩
    · obtain rfl : k = n := by omega
      by_cases hk0 : k = 0
      · subst hk0
        go_wp2_with fail
        go_loopg [0, 8] 1 (fun gg s0 s8 wx => s0 = .int .i64 s ∧ s8 = .int .i64 (-1) ∧ wx = wr)
        case atStart => exact ⟨rfl, rfl, rfl⟩
        case round =>
          obtain ⟨rfl, rfl, rfl⟩ := hrel
          go_wp2
          go_ret2
          exact ⟨B3.out, .inl ⟨rfl, _, _, rfl⟩⟩
      · have kpos : 0 < k := by omega
        obtain ⟨R, cap, hv, hRw, hrow⟩ := int_rowR O3.out kpos
        cases hv
        have S1 := Lib.hid (hrow.ext (g := fun j => .int .i64 ((fun q : Nat => (q : Int)) j)) (fun j hj => by rw [upto_get hj]))
        clear hrow O3 hlt
        have hkm : ((k - 1 : Nat) : Int) = (k : Int) - 1 := by omega
        go_wp2_with fail
        go_loopg [0, 8] k (fun gg s0 s8 wx => ∃ (r : Nat) (x : Int) (f : Nat → Int), (r ≤ k - 1 ∧ r ≤ gg) ∧ 0 ≤ x ∧ x < 4294967296 ∧ s0 = .int .i64 x ∧ s8 = .int .i64 r ∧ Aside (Below w.heap.size w wx) ∧ Aside (Row wx R k (fun j => .int .i64 (f j))) ∧ Hid (shuf r x f = shuf (k - 1) s (fun q : Nat => (q : Int))))
        case atStart => exact ⟨k - 1, s, _, ⟨by omega, by omega⟩, hs0, hs1, rfl, by rw [hkm], B3.out, S1.out, Lib.hid rfl⟩
        case round =>
          obtain ⟨r, x, f, ⟨hr, hg2⟩, hx0, hx1, rfl, rfl, B4, R4, H4⟩ := hrel
          clear B3 S1
          by_cases hlt : 1 ≤ r
          · obtain ⟨i, rfl⟩ : ∃ i, r = i + 1 := ⟨r - 1, by omega⟩
            have hltz : (1 : Int) ≤ ((i + 1 : Nat) : Int) := by omega
            have hj := drawJ_lt x (i + 1)
            have H5 := Lib.hid (show shuf i (nx x) (swapF f (i + 1) (drawJ x (i + 1))) = shuf (k - 1) s (fun q : Nat => (q : Int)) from H4.out)
            have C2 := Lib.hid (fun W => nextSeed_any x W hx0 hx1)
            have hy := sd_iff.1 (nx_sd x)
            generalize drawJ x (i + 1) = j at *
            generalize nx x = y at *
            have hi2 : i + 1 < k := by omega
            have hj2 : j < k := by omega
            have hje := hj.2.symm
            clear H4 hj hlt
            have hq0 : 0 ≤ y / 65536 := by omega
            have hir : i ≤ k - 1 := by omega
            have hm9 : i < i + 1 := Nat.lt_succ_self i
            have hdec : ((i + 1 : Nat) : Int) - 1 = (i : Int) := by omega
            have HS := Lib.hid (R4.out.swap hi2 hj2)
            have HB := Lib.hid ((B4.out.setCell (p := ⟨R, i + 1, none⟩) hRw (.int .i64 (f j))).setCell (p := ⟨R, j, none⟩) hRw (.int .i64 (f (i + 1))))
            generalize hip : i + 1 = ip at *
            have rci := R4.out.c ip hi2
            have rcj := R4.out.c j hj2
            have rzi := R4.out.fz ip
            have rzj := R4.out.fz j
            have rl := R4.out.lt
            have hiz : (ip : Int) < (k : Int) := by omega
            have hjz : (j : Int) < (k : Int) := by omega
            have hi0 : (0 : Int) ≤ (ip : Int) := Int.natCast_nonneg _
            have hj0 : (0 : Int) ≤ (j : Int) := Int.natCast_nonneg _
            have rcs := (R4.out.put hi2 (.int .i64 (f j))).c j hj2
            generalize (if j = ip then Value.int .i64 (f j) else .int .i64 (f j)) = v9 at rcs
            generalize f ip = fi at *
            generalize f j = fj at *
            clear hip
            go_wp2_with fail
            refine (C2.out _).mono ?_
            rintro e W5 ⟨rfl, rfl⟩
            go_wp2_with fail
            go_roundg i
            case measure => omega
            case rel => exact ⟨i, y, _, ⟨hir, Nat.le_refl _⟩, hy.1, hy.2, rfl, rfl, HB.out, HS.out, H5⟩
          · obtain rfl : r = 0 := by omega
            have e3 : shuf (k - 1) s (fun q : Nat => (q : Int)) = (f, x) := H4.out.symm
            have E3 := Lib.hid e3
            clear H4 e3
            go_wp2
            go_ret2
            exact ⟨B4.out, .inr ⟨kpos, R, _, hRw, by rw [E3.out]; rfl, by rw [E3.out]; exact R4.out⟩⟩

end Go.Proofs.Ytiknheoeldboaaa
