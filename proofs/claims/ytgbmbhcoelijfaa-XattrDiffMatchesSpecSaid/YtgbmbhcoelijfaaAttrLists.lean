/- checkLists and namesIn at every list of lists. Conditions: the slices' cells lie in memory as they read; a thousand attributes together at the most. -/
import Derived.Test.YtgbmbhcoelijfaaAttrConcat
import Derived.Test.YtgbmbhcoelijfaaAttrGet
import Derived.Test.YtgbmbhcoelijfaaAttrNames0
import Derived.Test.YtgbmbhcoelijfaaAttrSame
import Derived.Sort.OwnSorted
import Derived.Lib.OwnBridge
namespace Go.Proofs.Ytgbmbhcoelijfaa
open Go.RowKit

/-- The first invalid list's code and number. -/
def chkF (xss : List (List Attr)) : Int × Int := firstNZ (fun j => (valA (xss.getD j [])).1) xss.length 0
theorem chk_hit {xss : List (List Attr)} {k : Nat} {c : Int} (hk : k < xss.length) (hc : (valA (xss.getD k [])).1 = c) (hn : ¬ c = 0) (hA : ∀ j, j < k → (valA (xss.getD j [])).1 = 0) : chkF xss = (c, (k : Int)) := by
  unfold chkF
  have := firstNZ_hit (fun j => (valA (xss.getD j [])).1) xss.length 0 k hk (by simp only [Nat.zero_add]; rw [hc]; exact hn) (by intro j hj; simp only [Nat.zero_add]; exact hA j hj)
  rw [this]
  simp only [Nat.zero_add, hc]
theorem chk_miss {xss : List (List Attr)} (hA : ∀ j, j < xss.length → (valA (xss.getD j [])).1 = 0) : chkF xss = (0, 0) := by
  unfold chkF
  exact firstNZ_miss _ _ _ (by intro j hj; simp only [Nat.zero_add]; exact hA j hj)

set_option maxRecDepth 100000 in
set_option maxHeartbeats 2000000 in
theorem checkLists_any (v : Value) (vs : List Value) (xss : List (List Attr)) (w : World) (h : Ass w w.heap.size v vs xss) :
    Calls Try.prog 29 #[v] w fun e w' => e = .returned (faultV (chkF xss).1 (chkF xss).2) ∧ Below w.heap.size w w' := by
  obtain ⟨a, c, rfl, hc, hl, hA, hx⟩ := h
  have HX := Lib.hid hx
  have HA := Lib.hid hA
  clear hx hA
  go_enter Try.func29, Try.ntmps29
  go_wp2
  go_loopg [3, 4, 5, 8] xss.length (fun gg _ _ _ s8 wr => ∃ k : Nat, k ≤ xss.length ∧ xss.length - k ≤ gg ∧ s8 = .int .i64 k ∧ Aside (Below w.heap.size w wr) ∧ Aside (FBox wr w.heap.size 0 0) ∧ Aside (∀ j, j < k → (valA (xss.getD j [])).1 = 0))
  case atStart => exact ⟨0, by omega, by omega, rfl, (Below.refl _ _).alloc (Nat.le_refl _) _, FBox.new w 0 0 _, fun j hj => absurd hj (Nat.not_lt_zero _)⟩
  case round =>
    obtain ⟨k, hk, hg, rfl, BW, FB, A⟩ := hrel
    have hs0 := BW.out.size
    have hl0 := FB.out.lt
    by_cases hlt : k < xss.length
    · have hltz : (k : Int) < (xss.length : Int) := by omega
      obtain ⟨b, o, rfl, hb, hj⟩ := HX.out (by omega)
      have g0 := (BW.out.cell (p := ⟨b, o + k, none⟩) hb).trans (hj k hlt)
      clear hj
      have HAK := (HA.out k hlt).up BW.out
      obtain ⟨a5, c5, hv5, _⟩ := HAK.form rfl
      rw [hv5] at g0 HAK
      have HV := Lib.hid (validate_any _ _ _ HAK)
      unfold valAV faultV at HV
      generalize hd : (valA (xss.getD k [])).1 = d at *
      have HD := Lib.hid hd
      generalize (valA (xss.getD k [])).2 = di at *
      clear hd hv5 HAK
      generalize (xss.getD k []).length = n5 at *
      by_cases hd0 : d = 0
      · subst hd0
        go_wp2_with fail
        refine HV.out.mono ?_
        rintro e w1 ⟨rfl, b1⟩
        have B1 := Lib.hid (BW.out.trans (b1.mono hs0))
        have F1 := Lib.hid (FB.out.below b1 hl0)
        have s1 := b1.size
        clear b1
        go_wp2
        go_roundg (xss.length - (k + 1))
        case measure => omega
        case rel =>
          refine ⟨k + 1, by omega, by omega, by go_num, B1.out.alloc B1.out.size _, F1.out.alloc _, (show Aside _ from fun j hj => ?_)⟩
          by_cases e : j = k
          · subst e; exact HD.out
          · exact A.out j (by omega)
      · have hd1 : (d != 0) = true := by simpa using hd0
        have hd2 : (d == 0) = false := by simpa using hd0
        have HN := Lib.hid hd0
        clear hd0
        go_wp2_with fail
        refine HV.out.mono ?_
        rintro e w1 ⟨rfl, b1⟩
        have B1 := BW.out.trans (b1.mono hs0)
        obtain ⟨l1, a0, a1, f0, f1⟩ := FB.out.below b1 hl0
        have s1 := b1.size
        clear b1
        go_wp2
        refine bodyPost_ret (v := faultV d k) (by simp [results, Try.results29, faultV, go_sem, a0, a1, l1]; try rfl) rfl ⟨by rw [chk_hit hlt HD.out HN.out A.out], ?_⟩
        have := B1.size
        repeat (first | exact B1 | refine Below.setCell ?_ (by first | omega | (simp; done) | (simp; omega)) _ | refine Below.alloc ?_ (by first | omega | (simp; done) | (simp; omega)) _)
    · have hltz : ¬ (k : Int) < (xss.length : Int) := by omega
      have e : k = xss.length := by omega
      have E := Lib.hid e
      clear e
      obtain ⟨l1, a0, a1, f0, f1⟩ := FB.out
      go_wp2
      refine bodyPost_ret (v := faultV 0 0) (by simp [results, Try.results29, faultV, go_sem, a0, a1]) rfl ⟨by rw [chk_miss fun j hj => A.out j (by have := E.out; omega)], ?_⟩
      exact (BW.out.setCell (by first | omega | (simp; done) | (simp; omega)) _).setCell (by first | omega | (simp; done) | (simp; omega)) _

theorem strg_info : (Try.prog.info? 9).map (fun i => (i.zero, i.size, i.bytes)) = some (some (.string ByteArray.empty), 1, 16) := by kernel_rfl
/-- append(s, y): s a row of strings of the call's own (or nil). -/
theorem wpList_append_str {w : World} {ops : Array Oper} {rest : List Oper} {o : Oper} {a : Act} {Q : Exit → Act → World → Prop} (hgd : o.guard = none) (s x : Operand)
    (ho : o.op = .call { callee := .builtin .append, args := #[s, x], argTypes := #[41, 41] })
    (base : Nat) (v : Value) (n : Nat) (xs : List Value) (hs : a.eval s = v) (hown : w.ownsRow base 9 1 v n xs)
    (g : Nat) (y : ByteArray) (hx : a.eval x = .slice (some ⟨g, 0, none⟩) 1 1) (hc : w.cell? ⟨g, 0, none⟩ = some (.string y))
    (hn : n ≤ 100000) (hbase : base ≤ w.heap.size)
    (h : ∀ v' w', w'.ownsRow base 9 1 v' (n + 1) (xs ++ [.string y]) → w.grownBy w' v.ownBlock → wpList Try.prog ops Q rest (a.put o.dst v') w') : wpList Try.prog ops Q (o :: rest) a w := by
  obtain ⟨i0, hi, hz0, hz1, hz2⟩ := info_parts strg_info
  refine wpList_append_own w hgd s x 41 ho base 9 i0 _ 1 16 Try.underlying41 hi hz0 hz1 hz2 rfl (by omega) v n xs hs hown ⟨g, 0, none⟩ 1 1 [.string y] hx rfl (by
    intro j u hu
    match j, hu with
    | 0, hu =>
      have e : u = .string y := by simpa using hu.symm
      rw [e]; simpa [Addr.add] using hc
    | j + 1, hu => simp at hu) (by simp [Value.oneCell']) (by unfold maxLen; omega) (by omega) hbase fun v' w' h1 h2 _ => h v' w' h1 h2

theorem str_enc (x : ByteArray) : Value.string x = encStr x.data.toList := by
  unfold encStr
  simp
theorem nmL_snoc {L : List Attr} {k : Nat} (h : k < L.length) : (nmL (L.take (k + 1))).map encStr = (nmL (L.take k)).map encStr ++ [.string (L.getD k A0).n] := by
  unfold nmL
  rw [List.take_succ_eq_append_getElem h, List.map_append, List.map_append, atD h, str_enc]
  rfl
theorem nmL_len (L : List Attr) (k : Nat) (h : k ≤ L.length) : (nmL (L.take k)).length = k := by unfold nmL; simp; omega
def NamesPost (L : List Attr) (w : World) (e : Ending) (w' : World) : Prop :=
  ∃ v, e = .returned v ∧ Strs w' w'.heap.size v (namesB L) ∧ Below w.heap.size w w'
/-- A row of strings that a call owns reads as these strings. -/
theorem strs_own {w : World} {base n : Nat} {v : Value} {zs : List (List UInt8)} (h : w.ownsRow base 9 1 v n (zs.map encStr)) (hf : ∀ l ∈ zs, l.length ≤ maxLen) (hl : zs.length ≤ 35184372088832) : Strs w w.heap.size v (zs.map (fun l => ⟨l.toArray⟩)) := by
  have hn : n = zs.length := by have := h.1; simp at this; omega
  subst hn
  by_cases hv : v = .slice none 0 0
  · rcases h.2 with ⟨_, h0⟩ | ⟨g, cap, cur, hv2, _⟩
    · have : zs = [] := List.eq_nil_of_length_eq_zero h0
      subst this
      rw [hv]; exact Strs.none_ _ _
    · rw [hv] at hv2; cases hv2
  · obtain ⟨g, cap, rfl, _, hg, hnc, _, _, hH⟩ := Lib.holds_of_ownsRow h hv
    refine ⟨some ⟨g, 0, none⟩, cap, by simp, by simpa using hnc, by simpa using hl, ?_, fun _ => ⟨g, 0, rfl, hg, fun j hj => ?_⟩⟩
    · intro x hx
      obtain ⟨l, hl2, rfl⟩ := List.mem_map.1 hx
      have := hf l hl2
      simpa [ByteArray.size] using this
    · have hj' : j < zs.length := by simpa using hj
      rw [(hH j (by simpa using hj')).1, getElem!_pos zs.toArray j (by simpa using hj')]
      rw [List.getD_eq_getElem?_getD, List.getElem?_eq_getElem (by simpa using hj')]
      simp [encStr]

end Go.Proofs.Ytgbmbhcoelijfaa
