/- The reference's RequestCode: the same code. Conditions: the request's slices lie in memory as they read. -/
import Derived.Test.YtfealpehdjeckaaDoorMfCheck
import Derived.Test.YtfealpehdjeckaaDoorPathRefSplit
import Derived.Test.YtfealpehdjeckaaDoorAttrCode
import Derived.Test.YtfealpehdjeckaaDoorAclRefValid
namespace Go.Proofs.YtfealpehdjeckaaDoor
open Go.RowKit

def atB (k : Int) : Bool := decide (k = 3 ∨ k = 4)
def szU (k : Int) : Bool := decide (k = 3 ∨ k = 5 ∨ k = 13 ∨ k = 14)
/-- A field that the kind does not use is set. -/
def badB (r : Rq) : Bool := (!twoB r.k && decide (r.t ≠ ByteArray.empty)) || (!atB r.k && decide (r.off ≠ 0)) || (!szU r.k && decide (r.sz ≠ 0)) || (decide (r.k ≠ 4) && decide (0 < r.d.length)) || (decide (r.k ≠ 11) && decide (0 < r.ac.length)) || (decide (r.k ≠ 12) && !decide (r.a.n = ByteArray.empty ∧ r.a.v = ByteArray.empty))
theorem kinds_of {k : Int} (h : 1 ≤ k ∧ k ≤ 14) : k = 1 ∨ k = 2 ∨ k = 3 ∨ k = 4 ∨ k = 5 ∨ k = 6 ∨ k = 7 ∨ k = 8 ∨ k = 9 ∨ k = 10 ∨ k = 11 ∨ k = 12 ∨ k = 13 ∨ k = 14 := by omega
theorem kcls {k : Int} (h : k = 1 ∨ k = 2 ∨ k = 3 ∨ k = 4 ∨ k = 5 ∨ k = 6 ∨ k = 7 ∨ k = 8 ∨ k = 9 ∨ k = 10 ∨ k = 11 ∨ k = 12 ∨ k = 13 ∨ k = 14) : (twoB k = true ∧ atB k = false ∧ szU k = false ∧ (k != 4) = true ∧ (k != 11) = true ∧ (k != 12) = true) ∨ (twoB k = false ∧ atB k = true ∧ szU k = true ∧ (k != 4) = true ∧ (k != 11) = true ∧ (k != 12) = true) ∨ (twoB k = false ∧ atB k = true ∧ szU k = false ∧ (k != 4) = false ∧ (k != 11) = true ∧ (k != 12) = true) ∨ (twoB k = false ∧ atB k = false ∧ szU k = true ∧ (k != 4) = true ∧ (k != 11) = true ∧ (k != 12) = true) ∨ (twoB k = false ∧ atB k = false ∧ szU k = false ∧ (k != 4) = true ∧ (k != 11) = false ∧ (k != 12) = true) ∨ (twoB k = false ∧ atB k = false ∧ szU k = false ∧ (k != 4) = true ∧ (k != 11) = true ∧ (k != 12) = false) ∨ (twoB k = false ∧ atB k = false ∧ szU k = false ∧ (k != 4) = true ∧ (k != 11) = true ∧ (k != 12) = true) := by
  rcases h with rfl | rfl | rfl | rfl | rfl | rfl | rfl | rfl | rfl | rfl | rfl | rfl | rfl | rfl <;> simp [twoB, atB, szU]
theorem blank_bad {r : Rq} (h : 1 ≤ r.k ∧ r.k ≤ 14) : blankB (wo r) = !badB r := by
  obtain ⟨k, u, p, t, off, sz, d, ac, an, av⟩ := r
  simp only at h
  rcases kinds_of h with rfl | rfl | rfl | rfl | rfl | rfl | rfl | rfl | rfl | rfl | rfl | rfl | rfl | rfl <;>
    (rw [Bool.eq_iff_iff]; simp [blankB, wo, badB, twoB, atB, szU] <;> try grind)

set_option maxRecDepth 100000 in
set_option maxHeartbeats 8000000 in
theorem requestCode_any (r : Rq) (vd va : Value) (w : World) (h : RqS w w.heap.size vd va r) :
    Calls Tryd.prog 5 #[rqV r vd va] w fun e w' => e = .returned (.int .i64 (rqC r)) ∧ Below w.heap.size w w' := by
  have hsd : ∃ a c, vd = .slice a r.d.length c ∧ r.d.length ≤ c ∧ r.d.length ≤ 140737488355328 := by obtain ⟨a, c, h, h2, h3, _⟩ := h.d; exact ⟨_, _, h, h2, h3⟩
  obtain ⟨da, dc, rfl, hdc, hdl⟩ := hsd
  have hsa : ∃ a c, va = .slice a r.ac.length c ∧ r.ac.length ≤ c ∧ r.ac.length ≤ 5864062014805 := by obtain ⟨a, c, h, h2, h3, _⟩ := h.ac; exact ⟨_, _, h, h2, h3⟩
  obtain ⟨aa, ac', rfl, hac, hal⟩ := hsa
  have CP := Lib.hid (fun W => refSplit_any r.p W h.p)
  have CT := Lib.hid (fun W => refSplit_any r.t W h.t)
  have CV := Lib.hid (fun W (hb : Below w.heap.size w W) => refValid_any _ r.ac W (h.up hb).ac)
  have CS := Lib.hid (fun W => attrCode_any r.a.n r.a.v W h.a.1 h.a.2)
  unfold valV faultV at CV
  unfold SplitPost at CP CT
  rw [show (⟨r.a.n, r.a.v⟩ : Attr) = r.a from rfl] at CS
  have HCe : Hid (rqC r = if knownB r.k = false then 4
    else if usrB r.u = false then 3
    else if blankB (wo r) = false then 5
    else if pathB r.p = false then 12
    else if twoB r.k = true ∧ pathB r.t = false then 12
    else if offB r.off = false then 3
    else if szB r.k r.sz = false then 3
    else if 200 < r.d.length then 2
    else if (valF r.ac).1 ≠ 0 then (valF r.ac).1
    else if r.k = 12 then codeA r.a else 0) := Lib.hid rfl
  generalize hR : rqC r = R at *
  clear hR
  have B0 := Lib.hid (show Below w.heap.size w (w.alloc (.cells #[.int .i64 r.k, .int .i64 r.u, .string r.p, .string r.t, .int .i64 r.off, .int .i64 r.sz, .slice da r.d.length dc, .slice aa r.ac.length ac', .string r.a.n, .string r.a.v] 27)) from (Below.refl _ _).alloc (Nat.le_refl _) _)
  have K0 := Lib.hid (RqB.new w r.k r.u r.p r.t r.off r.sz (.slice da r.d.length dc) (.slice aa r.ac.length ac') r.a.n r.a.v 27)
  clear h
  unfold rqV
  by_cases hk : 1 ≤ r.k ∧ r.k ≤ 14
  · rw [show knownB r.k = true from decide_eq_true hk, if_neg (by simp), blank_bad hk] at HCe
    have hkk := kinds_of hk
    have HB : Hid (badB r = ((!twoB r.k && decide (r.t ≠ ByteArray.empty)) || (!atB r.k && decide (r.off ≠ 0)) || (!szU r.k && decide (r.sz ≠ 0)) || (decide (r.k ≠ 4) && decide (0 < r.d.length)) || (decide (r.k ≠ 11) && decide (0 < r.ac.length)) || (decide (r.k ≠ 12) && !decide (r.a.n = ByteArray.empty ∧ r.a.v = ByteArray.empty)))) := Lib.hid rfl
    generalize badB r = bad at *
    have HP : Hid (pathB r.p = decide ((splitF r.p).1 = 0)) := Lib.hid rfl
    have HT : Hid (pathB r.t = decide ((splitF r.t).1 = 0)) := Lib.hid rfl
    have HO : Hid (offB r.off = decide (0 ≤ r.off ∧ r.off ≤ 1000000)) := Lib.hid rfl
    have HZ : Hid (szB r.k r.sz = decide (0 ≤ r.sz ∧ r.sz ≤ maxSz r.k)) := Lib.hid rfl
    have HU : Hid (usrB r.u = decide (0 ≤ r.u ∧ r.u ≤ 7)) := Lib.hid rfl
    have HM : Hid (maxSz r.k = if r.k = 13 then 100000 else if r.k = 14 then 7 else 1000000) := Lib.hid rfl
    generalize pathB r.p = pB at *
    generalize pathB r.t = tB at *
    generalize offB r.off = oB at *
    generalize szB r.k r.sz = zB at *
    generalize usrB r.u = uB at *
    generalize maxSz r.k = mz at *
    generalize (splitF r.p).1 = pc at *
    generalize (splitF r.p).2 = pi at *
    generalize (splitF r.t).1 = tc at *
    generalize (splitF r.t).2 = ti at *
    generalize splitL r.p = pl at *
    generalize splitL r.t = tl at *
    generalize (valF r.ac).1 = vc at *
    generalize (valF r.ac).2 = vi at *
    generalize codeA r.a = ca at *
    generalize r.d.length = dl at *
    generalize r.ac.length = al at *
    obtain ⟨k, u, p, t, off, sz, d, ac, an, av⟩ := r
    simp only at *
    have k1z : decide (k < 1) = false := by rw [decide_eq_false_iff_not]; omega
    have k2z : decide (14 < k) = false := by rw [decide_eq_false_iff_not]; omega
    have HKK := Lib.hid hkk
    clear hk hkk
    go_enter Tryd.func5, Tryd.ntmps5
    by_cases hu : 0 ≤ u ∧ u ≤ 7
    · rw [decide_eq_true hu] at HU
      rw [HU.out, if_neg (by simp)] at HCe
      have u1 : decide (u < 0) = false := by rw [decide_eq_false_iff_not]; omega
      have u2 : decide (7 < u) = false := by rw [decide_eq_false_iff_not]; omega
      clear hu HU
      go_upto_region 6 with fail
      clear u1 u2 k1z k2z
      generalize hW0 : w.alloc _ = w1 at *
      clear hW0
      obtain ⟨q0, a0_0, a0_1, a0_2, a0_3, a0_4, a0_5, a0_6, a0_7, a0_8, a0_9⟩ := K0.out
      go_cut [4] from 29 to 34 (fun s4 wx => s4 = .bool (twoB k) ∧ wx = w1)
      case first =>
        clear HB HCe CP CT CV CS HP HT HO HZ HM
        cases e9 : (k == 9) <;> cases e10 : (k == 10)
        all_goals
          go_wp2_with fail
          go_meet
          case rel => exact ⟨congrArg Value.bool (by simp at e9 e10; simp [twoB, *]), rfl⟩
      case rest =>
      obtain ⟨rfl, hw0⟩ := hcut
      subst hw0
      obtain ⟨w1, rfl⟩ : ∃ w1 : World, w1 = wc := ⟨_, rfl⟩
      go_upto_region 7 with fail
      go_cut [5] from 35 to 40 (fun s5 wx => s5 = .bool (atB k) ∧ wx = w1)
      case first =>
        clear HB HCe CP CT CV CS HP HT HO HZ HM
        cases e3 : (k == 3) <;> cases e4 : (k == 4)
        all_goals
          go_wp2_with fail
          go_meet
          case rel => exact ⟨congrArg Value.bool (by simp at e3 e4; simp [atB, *]), rfl⟩
      case rest =>
      obtain ⟨rfl, hw0⟩ := hcut
      subst hw0
      obtain ⟨w1, rfl⟩ : ∃ w1 : World, w1 = wc := ⟨_, rfl⟩
      go_upto_region 8 with fail
      go_cut [6] from 41 to 54 (fun s6 wx => s6 = .bool (szU k) ∧ wx = w1)
      case first =>
        clear HB HCe CP CT CV CS HP HT HO HZ HM
        cases e3 : (k == 3) <;> cases e5 : (k == 5) <;> cases e13 : (k == 13) <;> cases e14 : (k == 14)
        all_goals
          go_wp2_with fail
          go_meet
          case rel => exact ⟨congrArg Value.bool (by simp at e3 e5 e13 e14; simp [szU, *]), rfl⟩
      case rest =>
      obtain ⟨rfl, hw0⟩ := hcut
      subst hw0
      obtain ⟨w1, rfl⟩ : ∃ w1 : World, w1 = wc := ⟨_, rfl⟩
      
      have HMZ : Hid (∀ i : Int, k = i → mz = if i = 13 then 100000 else if i = 14 then 7 else 1000000) := Lib.hid (fun i e => by subst e; exact HM.out)
      go_upto_region 9 with fail
      go_cut [109] from 55 to 109 (fun s109 wx => s109 = .bool bad ∧ wx = w1)
      case first =>
        have hbad := HB.out
        have hkc := kcls HKK.out
        rw [show decide (k ≠ 4) = (k != 4) from by rw [Bool.eq_iff_iff]; simp, show decide (k ≠ 11) = (k != 11) from by rw [Bool.eq_iff_iff]; simp, show decide (k ≠ 12) = (k != 12) from by rw [Bool.eq_iff_iff]; simp] at hbad
        clear HB HCe CP CT CV CS HP HT HO HZ HM HKK hdc hdl hac hal
        generalize twoB k = tw at *
        generalize atB k = tt at *
        generalize szU k = ts at *
        rcases hkc with ⟨rfl, rfl, rfl, e4, e5, e6⟩ | ⟨rfl, rfl, rfl, e4, e5, e6⟩ | ⟨rfl, rfl, rfl, e4, e5, e6⟩ | ⟨rfl, rfl, rfl, e4, e5, e6⟩ | ⟨rfl, rfl, rfl, e4, e5, e6⟩ | ⟨rfl, rfl, rfl, e4, e5, e6⟩ | ⟨rfl, rfl, rfl, e4, e5, e6⟩
        · rw [e4, e5, e6] at hbad
          simp only [Bool.not_true, Bool.not_false, Bool.true_and, Bool.false_and, Bool.or_false, Bool.false_or] at hbad
          have HBB := Lib.hid hbad
          clear hbad
          by_cases z_off : off = 0
          · subst z_off
            by_cases z_sz : sz = 0
            · subst z_sz
              by_cases z_dl : dl = 0
              · subst z_dl
                by_cases z_al : al = 0
                · subst z_al
                  by_cases z_n : an.toList = []
                  · have x_n := toList_nil.1 z_n
                    have X_x_n := Lib.hid x_n
                    clear x_n
                    by_cases z_v : av.toList = []
                    · have x_v := toList_nil.1 z_v
                      have X_x_v := Lib.hid x_v
                      clear x_v
                      go_wp2_with fail
                      go_meet
                      case rel =>
                        refine ⟨congrArg Value.bool ?_, rfl⟩
                        rw [HBB.out]
                        simp [X_x_n.out, X_x_v.out]
                    · have x_v : ¬ av = ByteArray.empty := fun e => z_v (toList_nil.2 e)
                      have X_x_v := Lib.hid x_v
                      clear x_v
                      go_wp2_with fail
                      go_meet
                      case rel =>
                        refine ⟨congrArg Value.bool ?_, rfl⟩
                        rw [HBB.out]
                        simp [X_x_n.out, X_x_v.out]
                  · have x_n : ¬ an = ByteArray.empty := fun e => z_n (toList_nil.2 e)
                    have X_x_n := Lib.hid x_n
                    clear x_n
                    go_wp2_with fail
                    go_meet
                    case rel =>
                      refine ⟨congrArg Value.bool ?_, rfl⟩
                      rw [HBB.out]
                      simp [X_x_n.out]
                · have y_al : 0 < al := Nat.pos_of_ne_zero z_al
                  go_wp2_with fail
                  go_meet
                  case rel =>
                    refine ⟨congrArg Value.bool ?_, rfl⟩
                    rw [HBB.out]
                    simp [y_al]
              · have y_dl : 0 < dl := Nat.pos_of_ne_zero z_dl
                go_wp2_with fail
                go_meet
                case rel =>
                  refine ⟨congrArg Value.bool ?_, rfl⟩
                  rw [HBB.out]
                  simp [y_dl]
            · have y_sz : (sz != 0) = true := by simpa using z_sz
              have YY := Lib.hid z_sz
              clear z_sz
              go_wp2_with fail
              go_meet
              case rel =>
                refine ⟨congrArg Value.bool ?_, rfl⟩
                rw [HBB.out]
                simp [YY.out]
          · have y_off : (off != 0) = true := by simpa using z_off
            have YY := Lib.hid z_off
            clear z_off
            go_wp2_with fail
            go_meet
            case rel =>
              refine ⟨congrArg Value.bool ?_, rfl⟩
              rw [HBB.out]
              simp [YY.out]
        · rw [e4, e5, e6] at hbad
          simp only [Bool.not_true, Bool.not_false, Bool.true_and, Bool.false_and, Bool.or_false, Bool.false_or] at hbad
          have HBB := Lib.hid hbad
          clear hbad
          by_cases z_t : t.toList = []
          · have x_t := toList_nil.1 z_t
            have X_x_t := Lib.hid x_t
            clear x_t
            by_cases z_dl : dl = 0
            · subst z_dl
              by_cases z_al : al = 0
              · subst z_al
                by_cases z_n : an.toList = []
                · have x_n := toList_nil.1 z_n
                  have X_x_n := Lib.hid x_n
                  clear x_n
                  by_cases z_v : av.toList = []
                  · have x_v := toList_nil.1 z_v
                    have X_x_v := Lib.hid x_v
                    clear x_v
                    go_wp2_with fail
                    go_meet
                    case rel =>
                      refine ⟨congrArg Value.bool ?_, rfl⟩
                      rw [HBB.out]
                      simp [X_x_t.out, X_x_n.out, X_x_v.out]
                  · have x_v : ¬ av = ByteArray.empty := fun e => z_v (toList_nil.2 e)
                    have X_x_v := Lib.hid x_v
                    clear x_v
                    go_wp2_with fail
                    go_meet
                    case rel =>
                      refine ⟨congrArg Value.bool ?_, rfl⟩
                      rw [HBB.out]
                      simp [X_x_t.out, X_x_n.out, X_x_v.out]
                · have x_n : ¬ an = ByteArray.empty := fun e => z_n (toList_nil.2 e)
                  have X_x_n := Lib.hid x_n
                  clear x_n
                  go_wp2_with fail
                  go_meet
                  case rel =>
                    refine ⟨congrArg Value.bool ?_, rfl⟩
                    rw [HBB.out]
                    simp [X_x_t.out, X_x_n.out]
              · have y_al : 0 < al := Nat.pos_of_ne_zero z_al
                go_wp2_with fail
                go_meet
                case rel =>
                  refine ⟨congrArg Value.bool ?_, rfl⟩
                  rw [HBB.out]
                  simp [X_x_t.out, y_al]
            · have y_dl : 0 < dl := Nat.pos_of_ne_zero z_dl
              go_wp2_with fail
              go_meet
              case rel =>
                refine ⟨congrArg Value.bool ?_, rfl⟩
                rw [HBB.out]
                simp [X_x_t.out, y_dl]
          · have x_t : ¬ t = ByteArray.empty := fun e => z_t (toList_nil.2 e)
            have X_x_t := Lib.hid x_t
            clear x_t
            go_wp2_with fail
            go_meet
            case rel =>
              refine ⟨congrArg Value.bool ?_, rfl⟩
              rw [HBB.out]
              simp [X_x_t.out]
        · rw [e4, e5, e6] at hbad
          simp only [Bool.not_true, Bool.not_false, Bool.true_and, Bool.false_and, Bool.or_false, Bool.false_or] at hbad
          have HBB := Lib.hid hbad
          clear hbad
          by_cases z_t : t.toList = []
          · have x_t := toList_nil.1 z_t
            have X_x_t := Lib.hid x_t
            clear x_t
            by_cases z_sz : sz = 0
            · subst z_sz
              by_cases z_al : al = 0
              · subst z_al
                by_cases z_n : an.toList = []
                · have x_n := toList_nil.1 z_n
                  have X_x_n := Lib.hid x_n
                  clear x_n
                  by_cases z_v : av.toList = []
                  · have x_v := toList_nil.1 z_v
                    have X_x_v := Lib.hid x_v
                    clear x_v
                    go_wp2_with fail
                    go_meet
                    case rel =>
                      refine ⟨congrArg Value.bool ?_, rfl⟩
                      rw [HBB.out]
                      simp [X_x_t.out, X_x_n.out, X_x_v.out]
                  · have x_v : ¬ av = ByteArray.empty := fun e => z_v (toList_nil.2 e)
                    have X_x_v := Lib.hid x_v
                    clear x_v
                    go_wp2_with fail
                    go_meet
                    case rel =>
                      refine ⟨congrArg Value.bool ?_, rfl⟩
                      rw [HBB.out]
                      simp [X_x_t.out, X_x_n.out, X_x_v.out]
                · have x_n : ¬ an = ByteArray.empty := fun e => z_n (toList_nil.2 e)
                  have X_x_n := Lib.hid x_n
                  clear x_n
                  go_wp2_with fail
                  go_meet
                  case rel =>
                    refine ⟨congrArg Value.bool ?_, rfl⟩
                    rw [HBB.out]
                    simp [X_x_t.out, X_x_n.out]
              · have y_al : 0 < al := Nat.pos_of_ne_zero z_al
                go_wp2_with fail
                go_meet
                case rel =>
                  refine ⟨congrArg Value.bool ?_, rfl⟩
                  rw [HBB.out]
                  simp [X_x_t.out, y_al]
            · have y_sz : (sz != 0) = true := by simpa using z_sz
              have YY := Lib.hid z_sz
              clear z_sz
              go_wp2_with fail
              go_meet
              case rel =>
                refine ⟨congrArg Value.bool ?_, rfl⟩
                rw [HBB.out]
                simp [X_x_t.out, YY.out]
          · have x_t : ¬ t = ByteArray.empty := fun e => z_t (toList_nil.2 e)
            have X_x_t := Lib.hid x_t
            clear x_t
            go_wp2_with fail
            go_meet
            case rel =>
              refine ⟨congrArg Value.bool ?_, rfl⟩
              rw [HBB.out]
              simp [X_x_t.out]
        · rw [e4, e5, e6] at hbad
          simp only [Bool.not_true, Bool.not_false, Bool.true_and, Bool.false_and, Bool.or_false, Bool.false_or] at hbad
          have HBB := Lib.hid hbad
          clear hbad
          by_cases z_t : t.toList = []
          · have x_t := toList_nil.1 z_t
            have X_x_t := Lib.hid x_t
            clear x_t
            by_cases z_off : off = 0
            · subst z_off
              by_cases z_dl : dl = 0
              · subst z_dl
                by_cases z_al : al = 0
                · subst z_al
                  by_cases z_n : an.toList = []
                  · have x_n := toList_nil.1 z_n
                    have X_x_n := Lib.hid x_n
                    clear x_n
                    by_cases z_v : av.toList = []
                    · have x_v := toList_nil.1 z_v
                      have X_x_v := Lib.hid x_v
                      clear x_v
                      go_wp2_with fail
                      go_meet
                      case rel =>
                        refine ⟨congrArg Value.bool ?_, rfl⟩
                        rw [HBB.out]
                        simp [X_x_t.out, X_x_n.out, X_x_v.out]
                    · have x_v : ¬ av = ByteArray.empty := fun e => z_v (toList_nil.2 e)
                      have X_x_v := Lib.hid x_v
                      clear x_v
                      go_wp2_with fail
                      go_meet
                      case rel =>
                        refine ⟨congrArg Value.bool ?_, rfl⟩
                        rw [HBB.out]
                        simp [X_x_t.out, X_x_n.out, X_x_v.out]
                  · have x_n : ¬ an = ByteArray.empty := fun e => z_n (toList_nil.2 e)
                    have X_x_n := Lib.hid x_n
                    clear x_n
                    go_wp2_with fail
                    go_meet
                    case rel =>
                      refine ⟨congrArg Value.bool ?_, rfl⟩
                      rw [HBB.out]
                      simp [X_x_t.out, X_x_n.out]
                · have y_al : 0 < al := Nat.pos_of_ne_zero z_al
                  go_wp2_with fail
                  go_meet
                  case rel =>
                    refine ⟨congrArg Value.bool ?_, rfl⟩
                    rw [HBB.out]
                    simp [X_x_t.out, y_al]
              · have y_dl : 0 < dl := Nat.pos_of_ne_zero z_dl
                go_wp2_with fail
                go_meet
                case rel =>
                  refine ⟨congrArg Value.bool ?_, rfl⟩
                  rw [HBB.out]
                  simp [X_x_t.out, y_dl]
            · have y_off : (off != 0) = true := by simpa using z_off
              have YY := Lib.hid z_off
              clear z_off
              go_wp2_with fail
              go_meet
              case rel =>
                refine ⟨congrArg Value.bool ?_, rfl⟩
                rw [HBB.out]
                simp [X_x_t.out, YY.out]
          · have x_t : ¬ t = ByteArray.empty := fun e => z_t (toList_nil.2 e)
            have X_x_t := Lib.hid x_t
            clear x_t
            go_wp2_with fail
            go_meet
            case rel =>
              refine ⟨congrArg Value.bool ?_, rfl⟩
              rw [HBB.out]
              simp [X_x_t.out]
        · rw [e4, e5, e6] at hbad
          simp only [Bool.not_true, Bool.not_false, Bool.true_and, Bool.false_and, Bool.or_false, Bool.false_or] at hbad
          have HBB := Lib.hid hbad
          clear hbad
          by_cases z_t : t.toList = []
          · have x_t := toList_nil.1 z_t
            have X_x_t := Lib.hid x_t
            clear x_t
            by_cases z_off : off = 0
            · subst z_off
              by_cases z_sz : sz = 0
              · subst z_sz
                by_cases z_dl : dl = 0
                · subst z_dl
                  by_cases z_n : an.toList = []
                  · have x_n := toList_nil.1 z_n
                    have X_x_n := Lib.hid x_n
                    clear x_n
                    by_cases z_v : av.toList = []
                    · have x_v := toList_nil.1 z_v
                      have X_x_v := Lib.hid x_v
                      clear x_v
                      go_wp2_with fail
                      go_meet
                      case rel =>
                        refine ⟨congrArg Value.bool ?_, rfl⟩
                        rw [HBB.out]
                        simp [X_x_t.out, X_x_n.out, X_x_v.out]
                    · have x_v : ¬ av = ByteArray.empty := fun e => z_v (toList_nil.2 e)
                      have X_x_v := Lib.hid x_v
                      clear x_v
                      go_wp2_with fail
                      go_meet
                      case rel =>
                        refine ⟨congrArg Value.bool ?_, rfl⟩
                        rw [HBB.out]
                        simp [X_x_t.out, X_x_n.out, X_x_v.out]
                  · have x_n : ¬ an = ByteArray.empty := fun e => z_n (toList_nil.2 e)
                    have X_x_n := Lib.hid x_n
                    clear x_n
                    go_wp2_with fail
                    go_meet
                    case rel =>
                      refine ⟨congrArg Value.bool ?_, rfl⟩
                      rw [HBB.out]
                      simp [X_x_t.out, X_x_n.out]
                · have y_dl : 0 < dl := Nat.pos_of_ne_zero z_dl
                  go_wp2_with fail
                  go_meet
                  case rel =>
                    refine ⟨congrArg Value.bool ?_, rfl⟩
                    rw [HBB.out]
                    simp [X_x_t.out, y_dl]
              · have y_sz : (sz != 0) = true := by simpa using z_sz
                have YY := Lib.hid z_sz
                clear z_sz
                go_wp2_with fail
                go_meet
                case rel =>
                  refine ⟨congrArg Value.bool ?_, rfl⟩
                  rw [HBB.out]
                  simp [X_x_t.out, YY.out]
            · have y_off : (off != 0) = true := by simpa using z_off
              have YY := Lib.hid z_off
              clear z_off
              go_wp2_with fail
              go_meet
              case rel =>
                refine ⟨congrArg Value.bool ?_, rfl⟩
                rw [HBB.out]
                simp [X_x_t.out, YY.out]
          · have x_t : ¬ t = ByteArray.empty := fun e => z_t (toList_nil.2 e)
            have X_x_t := Lib.hid x_t
            clear x_t
            go_wp2_with fail
            go_meet
            case rel =>
              refine ⟨congrArg Value.bool ?_, rfl⟩
              rw [HBB.out]
              simp [X_x_t.out]
        · rw [e4, e5, e6] at hbad
          simp only [Bool.not_true, Bool.not_false, Bool.true_and, Bool.false_and, Bool.or_false, Bool.false_or] at hbad
          have HBB := Lib.hid hbad
          clear hbad
          by_cases z_t : t.toList = []
          · have x_t := toList_nil.1 z_t
            have X_x_t := Lib.hid x_t
            clear x_t
            by_cases z_off : off = 0
            · subst z_off
              by_cases z_sz : sz = 0
              · subst z_sz
                by_cases z_dl : dl = 0
                · subst z_dl
                  by_cases z_al : al = 0
                  · subst z_al
                    go_wp2_with fail
                    go_meet
                    case rel =>
                      refine ⟨congrArg Value.bool ?_, rfl⟩
                      rw [HBB.out]
                      simp [X_x_t.out]
                  · have y_al : 0 < al := Nat.pos_of_ne_zero z_al
                    go_wp2_with fail
                    go_meet
                    case rel =>
                      refine ⟨congrArg Value.bool ?_, rfl⟩
                      rw [HBB.out]
                      simp [X_x_t.out, y_al]
                · have y_dl : 0 < dl := Nat.pos_of_ne_zero z_dl
                  go_wp2_with fail
                  go_meet
                  case rel =>
                    refine ⟨congrArg Value.bool ?_, rfl⟩
                    rw [HBB.out]
                    simp [X_x_t.out, y_dl]
              · have y_sz : (sz != 0) = true := by simpa using z_sz
                have YY := Lib.hid z_sz
                clear z_sz
                go_wp2_with fail
                go_meet
                case rel =>
                  refine ⟨congrArg Value.bool ?_, rfl⟩
                  rw [HBB.out]
                  simp [X_x_t.out, YY.out]
            · have y_off : (off != 0) = true := by simpa using z_off
              have YY := Lib.hid z_off
              clear z_off
              go_wp2_with fail
              go_meet
              case rel =>
                refine ⟨congrArg Value.bool ?_, rfl⟩
                rw [HBB.out]
                simp [X_x_t.out, YY.out]
          · have x_t : ¬ t = ByteArray.empty := fun e => z_t (toList_nil.2 e)
            have X_x_t := Lib.hid x_t
            clear x_t
            go_wp2_with fail
            go_meet
            case rel =>
              refine ⟨congrArg Value.bool ?_, rfl⟩
              rw [HBB.out]
              simp [X_x_t.out]
        · rw [e4, e5, e6] at hbad
          simp only [Bool.not_true, Bool.not_false, Bool.true_and, Bool.false_and, Bool.or_false, Bool.false_or] at hbad
          have HBB := Lib.hid hbad
          clear hbad
          by_cases z_t : t.toList = []
          · have x_t := toList_nil.1 z_t
            have X_x_t := Lib.hid x_t
            clear x_t
            by_cases z_off : off = 0
            · subst z_off
              by_cases z_sz : sz = 0
              · subst z_sz
                by_cases z_dl : dl = 0
                · subst z_dl
                  by_cases z_al : al = 0
                  · subst z_al
                    by_cases z_n : an.toList = []
                    · have x_n := toList_nil.1 z_n
                      have X_x_n := Lib.hid x_n
                      clear x_n
                      by_cases z_v : av.toList = []
                      · have x_v := toList_nil.1 z_v
                        have X_x_v := Lib.hid x_v
                        clear x_v
                        go_wp2_with fail
                        go_meet
                        case rel =>
                          refine ⟨congrArg Value.bool ?_, rfl⟩
                          rw [HBB.out]
                          simp [X_x_t.out, X_x_n.out, X_x_v.out]
                      · have x_v : ¬ av = ByteArray.empty := fun e => z_v (toList_nil.2 e)
                        have X_x_v := Lib.hid x_v
                        clear x_v
                        go_wp2_with fail
                        go_meet
                        case rel =>
                          refine ⟨congrArg Value.bool ?_, rfl⟩
                          rw [HBB.out]
                          simp [X_x_t.out, X_x_n.out, X_x_v.out]
                    · have x_n : ¬ an = ByteArray.empty := fun e => z_n (toList_nil.2 e)
                      have X_x_n := Lib.hid x_n
                      clear x_n
                      go_wp2_with fail
                      go_meet
                      case rel =>
                        refine ⟨congrArg Value.bool ?_, rfl⟩
                        rw [HBB.out]
                        simp [X_x_t.out, X_x_n.out]
                  · have y_al : 0 < al := Nat.pos_of_ne_zero z_al
                    go_wp2_with fail
                    go_meet
                    case rel =>
                      refine ⟨congrArg Value.bool ?_, rfl⟩
                      rw [HBB.out]
                      simp [X_x_t.out, y_al]
                · have y_dl : 0 < dl := Nat.pos_of_ne_zero z_dl
                  go_wp2_with fail
                  go_meet
                  case rel =>
                    refine ⟨congrArg Value.bool ?_, rfl⟩
                    rw [HBB.out]
                    simp [X_x_t.out, y_dl]
              · have y_sz : (sz != 0) = true := by simpa using z_sz
                have YY := Lib.hid z_sz
                clear z_sz
                go_wp2_with fail
                go_meet
                case rel =>
                  refine ⟨congrArg Value.bool ?_, rfl⟩
                  rw [HBB.out]
                  simp [X_x_t.out, YY.out]
            · have y_off : (off != 0) = true := by simpa using z_off
              have YY := Lib.hid z_off
              clear z_off
              go_wp2_with fail
              go_meet
              case rel =>
                refine ⟨congrArg Value.bool ?_, rfl⟩
                rw [HBB.out]
                simp [X_x_t.out, YY.out]
          · have x_t : ¬ t = ByteArray.empty := fun e => z_t (toList_nil.2 e)
            have X_x_t := Lib.hid x_t
            clear x_t
            go_wp2_with fail
            go_meet
            case rel =>
              refine ⟨congrArg Value.bool ?_, rfl⟩
              rw [HBB.out]
              simp [X_x_t.out]
      case rest =>
      obtain ⟨rfl, hw0⟩ := hcut
      subst hw0
      obtain ⟨w1, rfl⟩ : ∃ w1 : World, w1 = wc := ⟨_, rfl⟩
      clear HB
      have hs0 := B0.out.size
      cases bad with
      | true =>
        simp only [Bool.not_true, if_true] at HCe
        go_wp2
        go_ret
        exact ⟨ret_int HCe.out.symm, B0.out⟩
      | false =>
      simp only [Bool.not_false, Bool.true_eq_false, if_false] at HCe
      go_wp2_with fail
      refine (CP.out _).mono ?_
      rintro e w2 ⟨v2, rfl, _, b2, _⟩
      have K2 := Lib.hid (K0.out.below b2 K0.out.lt)
      have B2 := Lib.hid (B0.out.trans (b2.mono B0.out.size))
      have X2 := Lib.hid ((FBox.new w2 pc pi 29))
      have hs2 := B2.out.size
      have K3 := Lib.hid (K2.out.up ((Below.refl w2.heap.size w2).alloc (Nat.le_refl _) (.cells #[.int .i64 pc, .int .i64 pi] 29)))
      have B3 := Lib.hid (B2.out.alloc hs2 (.cells #[.int .i64 pc, .int .i64 pi] 29))
      obtain ⟨q3, a3_0, a3_1, a3_2, a3_3, a3_4, a3_5, a3_6, a3_7, a3_8, a3_9⟩ := K3.out
      clear b2 CP B0 K0 a0_0 a0_1 a0_2 a0_3 a0_4 a0_5 a0_6 a0_7 a0_8 a0_9 q0
      go_wp2_with fail
      refine (CT.out _).mono ?_
      rintro e w4 ⟨v4, rfl, _, b4, _⟩
      have K4 := Lib.hid (K3.out.below b4 K3.out.lt)
      have B4 := Lib.hid (B3.out.trans (b4.mono B3.out.size))
      have X4 := X2.out.below b4 X2.out.lt
      have K5 := Lib.hid (K4.out.up ((Below.refl w4.heap.size w4).alloc (Nat.le_refl _) (.cells #[.int .i64 tc, .int .i64 ti] 29)))
      have B5 := Lib.hid (B4.out.alloc B4.out.size (.cells #[.int .i64 tc, .int .i64 ti] 29))
      have X5 := X4.alloc (.cells #[.int .i64 tc, .int .i64 ti] 29)
      have Y5 := FBox.new w4 tc ti 29
      have hs4 := B4.out.size
      clear b4 CT B2 B3 K2 K3 a3_0 a3_1 a3_2 a3_3 a3_4 a3_5 a3_6 a3_7 a3_8 a3_9 q3
      go_upto_region 13 with fail
      generalize w4.alloc _ = w5 at *
      generalize w4.heap.size = n4 at *
      generalize w2.heap.size = n2 at *
      clear K4 B4 X4 X2
      obtain ⟨lx, x0, x1, _, _⟩ := X5
      obtain ⟨ly, y0, y1, _, _⟩ := Y5
      go_cut [132] from 122 to 132 (fun s132 wx => s132 = .bool (!pB || (twoB k && !tB)) ∧ wx = w5)
      case first =>
        generalize twoB k = tw at *
        have hp1 := HP.out
        have ht1 := HT.out
        clear HCe CV CS HP HT HO HZ HM
        cases pB with
        | false =>
          have h1 : (pc != 0) = true := by simpa using hp1
          clear hp1 ht1
          go_wp2_with fail
          go_meet
          case rel => exact ⟨rfl, rfl⟩
        | true =>
          have h1 : (pc != 0) = false := by simpa using hp1
          clear hp1
          cases tw with
          | false =>
            clear ht1
            go_wp2_with fail
            go_meet
            case rel => exact ⟨rfl, rfl⟩
          | true =>
            cases tB with
            | false =>
              have h2 : (tc != 0) = true := by simpa using ht1
              clear ht1
              go_wp2_with fail
              go_meet
              case rel => exact ⟨rfl, rfl⟩
            | true =>
              have h2 : (tc != 0) = false := by simpa using ht1
              clear ht1
              go_wp2_with fail
              go_meet
              case rel => exact ⟨rfl, rfl⟩
      case rest =>
      obtain ⟨rfl, hw0⟩ := hcut
      subst hw0
      obtain ⟨w5, rfl⟩ : ∃ w5 : World, w5 = wc := ⟨_, rfl⟩
      have HC2 : Hid (R = if (!pB || (twoB k && !tB)) = true then 12 else if oB = false then 3 else if zB = false then 3 else if 200 < dl then 2 else if vc ≠ 0 then vc else if k = 12 then ca else 0) := Lib.hid (by
        rw [HCe.out]; cases pB <;> cases (twoB k) <;> cases tB <;> rfl)
      clear HCe HP HT x0 x1 y0 y1 lx ly
      have HCe := HC2
      clear HC2
      obtain ⟨q5, a5_0, a5_1, a5_2, a5_3, a5_4, a5_5, a5_6, a5_7, a5_8, a5_9⟩ := K5.out
      have hs5 := B5.out.size
      generalize (!pB || (twoB k && !tB)) = xB at *
      cases xB with
      | true =>
        rw [if_pos rfl] at HCe
        go_wp2
        go_ret
        exact ⟨ret_int HCe.out.symm, B5.out⟩
      | false =>
      rw [if_neg (by simp)] at HCe
      clear HM HKK
      by_cases k13 : k = 13
      · subst k13
        have HM13 := HMZ.out 13 rfl
        rw [if_pos rfl] at HM13
        subst HM13
        clear HMZ
        by_cases h1 : off < 0
        · have HD := Lib.hid (show R = 3 by
            rw [HCe.out, HO.out, HZ.out]
            by_cases x1 : 0 ≤ off ∧ off ≤ 1000000
            · rw [decide_eq_true x1, if_neg (by simp), decide_eq_false (show ¬ (0 ≤ sz ∧ sz ≤ 100000) by omega), if_pos rfl]
            · rw [decide_eq_false x1, if_pos rfl])
          clear HCe
          go_wp2
          go_ret
          exact ⟨ret_int HD.out.symm, B5.out⟩
        · have f1 : decide (off < 0) = false := by rw [decide_eq_false_iff_not]; omega
          by_cases h2 : sz < 0
          · have HD := Lib.hid (show R = 3 by
              rw [HCe.out, HO.out, HZ.out]
              by_cases x1 : 0 ≤ off ∧ off ≤ 1000000
              · rw [decide_eq_true x1, if_neg (by simp), decide_eq_false (show ¬ (0 ≤ sz ∧ sz ≤ 100000) by omega), if_pos rfl]
              · rw [decide_eq_false x1, if_pos rfl])
            clear HCe
            go_wp2
            go_ret
            exact ⟨ret_int HD.out.symm, B5.out⟩
          · have f2 : decide (sz < 0) = false := by rw [decide_eq_false_iff_not]; omega
            by_cases h3 : 1000000 < off
            · have HD := Lib.hid (show R = 3 by
                rw [HCe.out, HO.out, HZ.out]
                by_cases x1 : 0 ≤ off ∧ off ≤ 1000000
                · rw [decide_eq_true x1, if_neg (by simp), decide_eq_false (show ¬ (0 ≤ sz ∧ sz ≤ 100000) by omega), if_pos rfl]
                · rw [decide_eq_false x1, if_pos rfl])
              clear HCe
              go_wp2
              go_ret
              exact ⟨ret_int HD.out.symm, B5.out⟩
            · have f3 : decide (1000000 < off) = false := by rw [decide_eq_false_iff_not]; omega
              by_cases h4 : 100000 < sz
              · have HD := Lib.hid (show R = 3 by
                  rw [HCe.out, HO.out, HZ.out]
                  by_cases x1 : 0 ≤ off ∧ off ≤ 1000000
                  · rw [decide_eq_true x1, if_neg (by simp), decide_eq_false (show ¬ (0 ≤ sz ∧ sz ≤ 100000) by omega), if_pos rfl]
                  · rw [decide_eq_false x1, if_pos rfl])
                clear HCe
                go_wp2
                go_ret
                exact ⟨ret_int HD.out.symm, B5.out⟩
              · clear f1 f2 f3
                have o1 : decide (off < 0) = false := by rw [decide_eq_false_iff_not]; omega
                have o2 : decide (sz < 0) = false := by rw [decide_eq_false_iff_not]; omega
                have o3 : decide (1000000 < off) = false := by rw [decide_eq_false_iff_not]; omega
                have o4 : decide (100000 < sz) = false := by rw [decide_eq_false_iff_not]; omega
                have HD := Lib.hid (show oB = true by rw [HO.out]; exact decide_eq_true (by omega))
                have HE := Lib.hid (show zB = true by rw [HZ.out]; exact decide_eq_true (by omega))
                rw [HD.out, HE.out, if_neg (by simp), if_neg (by simp)] at HCe
                clear h1 h2 h3 h4 HO HZ HD HE
                by_cases hd : 200 < dl
                · rw [if_pos hd] at HCe
                  have hdz : (200 : Int) < (dl : Int) := by omega
                  go_wp2
                  go_ret
                  exact ⟨ret_int HCe.out.symm, B5.out⟩
                · rw [if_neg hd] at HCe
                  have hdz : decide ((200 : Int) < (dl : Int)) = false := by rw [decide_eq_false_iff_not]; omega
                  clear hd
                  go_wp2_with fail
                  refine (CV.out _ B5.out).mono ?_
                  rintro e w8 ⟨rfl, b8⟩
                  have K8 := Lib.hid (K5.out.up b8)
                  have B8 := Lib.hid (B5.out.trans (b8.mono B5.out.size))
                  clear b8 K5 B5 CV a5_0 a5_1 a5_2 a5_3 a5_4 a5_5 a5_6 a5_7 a5_8 a5_9 q5 hdz o1 o2 o3 o4
                  have hs8 := B8.out.size
                  obtain ⟨q8, a8_0, a8_1, a8_2, a8_3, a8_4, a8_5, a8_6, a8_7, a8_8, a8_9⟩ := K8.out
                  by_cases hv : vc = 0
                  · subst hv
                    simp only [ne_eq, not_true_eq_false, if_false] at HCe
                    have K9 := Lib.hid (K8.out.up ((Below.refl w8.heap.size w8).alloc (Nat.le_refl _) (.cells #[.int .i64 0, .int .i64 vi] 29)))
                    have B9 := Lib.hid (B8.out.alloc hs8 (.cells #[.int .i64 0, .int .i64 vi] 29))
                    rw [if_neg (by decide)] at HCe
                    go_wp2
                    go_ret
                    exact ⟨ret_int HCe.out.symm, B9.out⟩
                  · have hv1 : (vc != 0) = true := by simpa using hv
                    rw [if_pos hv] at HCe
                    clear hv
                    go_wp2
                    go_ret
                    exact ⟨ret_int HCe.out.symm, (by repeat (first | exact Below.refl _ _ | exact B8.out | refine Below.setCell ?_ (by first | omega | (simp; done) | (simp; omega)) _ | refine Below.alloc ?_ (by first | omega | (simp; done) | (simp; omega)) _ | refine Below.drew ?_ | refine below_drewN ?_ _))⟩
      · by_cases k14 : k = 14
        · subst k14
          have HM14 := HMZ.out 14 rfl
          rw [if_neg (by decide), if_pos rfl] at HM14
          subst HM14
          clear HMZ
          by_cases h1 : off < 0
          · have HD := Lib.hid (show R = 3 by
              rw [HCe.out, HO.out, HZ.out]
              by_cases x1 : 0 ≤ off ∧ off ≤ 1000000
              · rw [decide_eq_true x1, if_neg (by simp), decide_eq_false (show ¬ (0 ≤ sz ∧ sz ≤ 7) by omega), if_pos rfl]
              · rw [decide_eq_false x1, if_pos rfl])
            clear HCe
            go_wp2
            go_ret
            exact ⟨ret_int HD.out.symm, B5.out⟩
          · have f1 : decide (off < 0) = false := by rw [decide_eq_false_iff_not]; omega
            by_cases h2 : sz < 0
            · have HD := Lib.hid (show R = 3 by
                rw [HCe.out, HO.out, HZ.out]
                by_cases x1 : 0 ≤ off ∧ off ≤ 1000000
                · rw [decide_eq_true x1, if_neg (by simp), decide_eq_false (show ¬ (0 ≤ sz ∧ sz ≤ 7) by omega), if_pos rfl]
                · rw [decide_eq_false x1, if_pos rfl])
              clear HCe
              go_wp2
              go_ret
              exact ⟨ret_int HD.out.symm, B5.out⟩
            · have f2 : decide (sz < 0) = false := by rw [decide_eq_false_iff_not]; omega
              by_cases h3 : 1000000 < off
              · have HD := Lib.hid (show R = 3 by
                  rw [HCe.out, HO.out, HZ.out]
                  by_cases x1 : 0 ≤ off ∧ off ≤ 1000000
                  · rw [decide_eq_true x1, if_neg (by simp), decide_eq_false (show ¬ (0 ≤ sz ∧ sz ≤ 7) by omega), if_pos rfl]
                  · rw [decide_eq_false x1, if_pos rfl])
                clear HCe
                go_wp2
                go_ret
                exact ⟨ret_int HD.out.symm, B5.out⟩
              · have f3 : decide (1000000 < off) = false := by rw [decide_eq_false_iff_not]; omega
                by_cases h4 : 7 < sz
                · have HD := Lib.hid (show R = 3 by
                    rw [HCe.out, HO.out, HZ.out]
                    by_cases x1 : 0 ≤ off ∧ off ≤ 1000000
                    · rw [decide_eq_true x1, if_neg (by simp), decide_eq_false (show ¬ (0 ≤ sz ∧ sz ≤ 7) by omega), if_pos rfl]
                    · rw [decide_eq_false x1, if_pos rfl])
                  clear HCe
                  go_wp2
                  go_ret
                  exact ⟨ret_int HD.out.symm, B5.out⟩
                · clear f1 f2 f3
                  have o1 : decide (off < 0) = false := by rw [decide_eq_false_iff_not]; omega
                  have o2 : decide (sz < 0) = false := by rw [decide_eq_false_iff_not]; omega
                  have o3 : decide (1000000 < off) = false := by rw [decide_eq_false_iff_not]; omega
                  have o4 : decide (7 < sz) = false := by rw [decide_eq_false_iff_not]; omega
                  have HD := Lib.hid (show oB = true by rw [HO.out]; exact decide_eq_true (by omega))
                  have HE := Lib.hid (show zB = true by rw [HZ.out]; exact decide_eq_true (by omega))
                  rw [HD.out, HE.out, if_neg (by simp), if_neg (by simp)] at HCe
                  clear h1 h2 h3 h4 HO HZ HD HE
                  by_cases hd : 200 < dl
                  · rw [if_pos hd] at HCe
                    have hdz : (200 : Int) < (dl : Int) := by omega
                    go_wp2
                    go_ret
                    exact ⟨ret_int HCe.out.symm, B5.out⟩
                  · rw [if_neg hd] at HCe
                    have hdz : decide ((200 : Int) < (dl : Int)) = false := by rw [decide_eq_false_iff_not]; omega
                    clear hd
                    go_wp2_with fail
                    refine (CV.out _ B5.out).mono ?_
                    rintro e w8 ⟨rfl, b8⟩
                    have K8 := Lib.hid (K5.out.up b8)
                    have B8 := Lib.hid (B5.out.trans (b8.mono B5.out.size))
                    clear b8 K5 B5 CV a5_0 a5_1 a5_2 a5_3 a5_4 a5_5 a5_6 a5_7 a5_8 a5_9 q5 hdz o1 o2 o3 o4
                    have hs8 := B8.out.size
                    obtain ⟨q8, a8_0, a8_1, a8_2, a8_3, a8_4, a8_5, a8_6, a8_7, a8_8, a8_9⟩ := K8.out
                    by_cases hv : vc = 0
                    · subst hv
                      simp only [ne_eq, not_true_eq_false, if_false] at HCe
                      have K9 := Lib.hid (K8.out.up ((Below.refl w8.heap.size w8).alloc (Nat.le_refl _) (.cells #[.int .i64 0, .int .i64 vi] 29)))
                      have B9 := Lib.hid (B8.out.alloc hs8 (.cells #[.int .i64 0, .int .i64 vi] 29))
                      rw [if_neg (by decide)] at HCe
                      go_wp2
                      go_ret
                      exact ⟨ret_int HCe.out.symm, B9.out⟩
                    · have hv1 : (vc != 0) = true := by simpa using hv
                      rw [if_pos hv] at HCe
                      clear hv
                      go_wp2
                      go_ret
                      exact ⟨ret_int HCe.out.symm, (by repeat (first | exact Below.refl _ _ | exact B8.out | refine Below.setCell ?_ (by first | omega | (simp; done) | (simp; omega)) _ | refine Below.alloc ?_ (by first | omega | (simp; done) | (simp; omega)) _ | refine Below.drew ?_ | refine below_drewN ?_ _))⟩
        · have HM0 := HMZ.out k rfl
          rw [if_neg k13, if_neg k14] at HM0
          subst HM0
          have e13 : (k == 13) = false := by simpa using k13
          have e14 : (k == 14) = false := by simpa using k14
          clear HMZ k13 k14
          by_cases h1 : off < 0
          · have HD := Lib.hid (show R = 3 by
              rw [HCe.out, HO.out, HZ.out]
              by_cases x1 : 0 ≤ off ∧ off ≤ 1000000
              · rw [decide_eq_true x1, if_neg (by simp), decide_eq_false (show ¬ (0 ≤ sz ∧ sz ≤ 1000000) by omega), if_pos rfl]
              · rw [decide_eq_false x1, if_pos rfl])
            clear HCe
            go_wp2
            go_ret
            exact ⟨ret_int HD.out.symm, B5.out⟩
          · have f1 : decide (off < 0) = false := by rw [decide_eq_false_iff_not]; omega
            by_cases h2 : sz < 0
            · have HD := Lib.hid (show R = 3 by
                rw [HCe.out, HO.out, HZ.out]
                by_cases x1 : 0 ≤ off ∧ off ≤ 1000000
                · rw [decide_eq_true x1, if_neg (by simp), decide_eq_false (show ¬ (0 ≤ sz ∧ sz ≤ 1000000) by omega), if_pos rfl]
                · rw [decide_eq_false x1, if_pos rfl])
              clear HCe
              go_wp2
              go_ret
              exact ⟨ret_int HD.out.symm, B5.out⟩
            · have f2 : decide (sz < 0) = false := by rw [decide_eq_false_iff_not]; omega
              by_cases h3 : 1000000 < off
              · have HD := Lib.hid (show R = 3 by
                  rw [HCe.out, HO.out, HZ.out]
                  by_cases x1 : 0 ≤ off ∧ off ≤ 1000000
                  · rw [decide_eq_true x1, if_neg (by simp), decide_eq_false (show ¬ (0 ≤ sz ∧ sz ≤ 1000000) by omega), if_pos rfl]
                  · rw [decide_eq_false x1, if_pos rfl])
                clear HCe
                go_wp2
                go_ret
                exact ⟨ret_int HD.out.symm, B5.out⟩
              · have f3 : decide (1000000 < off) = false := by rw [decide_eq_false_iff_not]; omega
                by_cases h4 : 1000000 < sz
                · have HD := Lib.hid (show R = 3 by
                    rw [HCe.out, HO.out, HZ.out]
                    by_cases x1 : 0 ≤ off ∧ off ≤ 1000000
                    · rw [decide_eq_true x1, if_neg (by simp), decide_eq_false (show ¬ (0 ≤ sz ∧ sz ≤ 1000000) by omega), if_pos rfl]
                    · rw [decide_eq_false x1, if_pos rfl])
                  clear HCe
                  go_wp2
                  go_ret
                  exact ⟨ret_int HD.out.symm, B5.out⟩
                · clear f1 f2 f3
                  have o1 : decide (off < 0) = false := by rw [decide_eq_false_iff_not]; omega
                  have o2 : decide (sz < 0) = false := by rw [decide_eq_false_iff_not]; omega
                  have o3 : decide (1000000 < off) = false := by rw [decide_eq_false_iff_not]; omega
                  have o4 : decide (1000000 < sz) = false := by rw [decide_eq_false_iff_not]; omega
                  have HD := Lib.hid (show oB = true by rw [HO.out]; exact decide_eq_true (by omega))
                  have HE := Lib.hid (show zB = true by rw [HZ.out]; exact decide_eq_true (by omega))
                  rw [HD.out, HE.out, if_neg (by simp), if_neg (by simp)] at HCe
                  clear h1 h2 h3 h4 HO HZ HD HE
                  by_cases hd : 200 < dl
                  · rw [if_pos hd] at HCe
                    have hdz : (200 : Int) < (dl : Int) := by omega
                    go_wp2
                    go_ret
                    exact ⟨ret_int HCe.out.symm, B5.out⟩
                  · rw [if_neg hd] at HCe
                    have hdz : decide ((200 : Int) < (dl : Int)) = false := by rw [decide_eq_false_iff_not]; omega
                    clear hd
                    go_wp2_with fail
                    refine (CV.out _ B5.out).mono ?_
                    rintro e w8 ⟨rfl, b8⟩
                    have K8 := Lib.hid (K5.out.up b8)
                    have B8 := Lib.hid (B5.out.trans (b8.mono B5.out.size))
                    clear b8 K5 B5 CV a5_0 a5_1 a5_2 a5_3 a5_4 a5_5 a5_6 a5_7 a5_8 a5_9 q5 hdz o1 o2 o3 o4
                    have hs8 := B8.out.size
                    obtain ⟨q8, a8_0, a8_1, a8_2, a8_3, a8_4, a8_5, a8_6, a8_7, a8_8, a8_9⟩ := K8.out
                    by_cases hv : vc = 0
                    · subst hv
                      simp only [ne_eq, not_true_eq_false, if_false] at HCe
                      have K9 := Lib.hid (K8.out.up ((Below.refl w8.heap.size w8).alloc (Nat.le_refl _) (.cells #[.int .i64 0, .int .i64 vi] 29)))
                      have B9 := Lib.hid (B8.out.alloc hs8 (.cells #[.int .i64 0, .int .i64 vi] 29))
                      by_cases hk : k = 12
                      · subst hk
                        rw [if_pos rfl] at HCe
                        go_wp2_with fail
                        refine (CS.out _).mono ?_
                        rintro e w10 ⟨rfl, b10⟩
                        have B10 := Lib.hid (B9.out.trans (b10.mono B9.out.size))
                        have hs10 := B10.out.size
                        clear b10
                        go_wp2
                        go_ret
                        exact ⟨ret_int HCe.out.symm, (by repeat (first | exact Below.refl _ _ | exact B10.out | refine Below.setCell ?_ (by first | omega | (simp; done) | (simp; omega)) _ | refine Below.alloc ?_ (by first | omega | (simp; done) | (simp; omega)) _ | refine Below.drew ?_ | refine below_drewN ?_ _))⟩
                      · rw [if_neg hk] at HCe
                        have hk1 : (k == 12) = false := by simpa using hk
                        clear hk
                        go_wp2
                        go_ret
                        exact ⟨ret_int HCe.out.symm, B9.out⟩
                    · have hv1 : (vc != 0) = true := by simpa using hv
                      rw [if_pos hv] at HCe
                      clear hv
                      go_wp2
                      go_ret
                      exact ⟨ret_int HCe.out.symm, (by repeat (first | exact Below.refl _ _ | exact B8.out | refine Below.setCell ?_ (by first | omega | (simp; done) | (simp; omega)) _ | refine Below.alloc ?_ (by first | omega | (simp; done) | (simp; omega)) _ | refine Below.drew ?_ | refine below_drewN ?_ _))⟩
    · rw [decide_eq_false hu] at HU
      rw [HU.out, if_pos rfl] at HCe
      by_cases u0 : u < 0
      · go_wp2
        go_ret
        exact ⟨ret_int HCe.out.symm, B0.out⟩
      · have u1 : decide (u < 0) = false := by rw [decide_eq_false_iff_not]; omega
        have u2 : 7 < u := by omega
        clear u0 hu
        go_wp2
        go_ret
        exact ⟨ret_int HCe.out.symm, B0.out⟩
  · rw [show knownB r.k = false from decide_eq_false hk, if_pos rfl] at HCe
    obtain ⟨k, u, p, t, off, sz, d, ac, an, av⟩ := r
    simp only at *
    generalize d.length = dl at *
    generalize ac.length = al at *
    go_enter Tryd.func5, Tryd.ntmps5
    by_cases k1 : k < 1
    · go_wp2
      go_ret
      exact ⟨ret_int HCe.out.symm, B0.out⟩
    · have k2 : decide (k < 1) = false := by rw [decide_eq_false_iff_not]; omega
      have k3 : 14 < k := by omega
      clear k1 hk
      go_wp2
      go_ret
      exact ⟨ret_int HCe.out.symm, B0.out⟩

end Go.Proofs.YtfealpehdjeckaaDoor
