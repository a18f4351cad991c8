/- Round trips of paths: splitting a path that is joined of names gives the names; cleaning a path leaves it. Plain facts on lists of bytes. -/
import Derived.Test.YtmjpcpnjppmnkaaDoorPathLawOrder
import Derived.Test.YtmjpcpnjppmnkaaDoorPathClean1
namespace Go.Proofs.YtmjpcpnjppmnkaaDoor
open Go.RowKit

/-- What Clean keeps, what it returns. -/
def cleanL (s : ByteArray) : List ByteArray := (comps s.data.toList).foldl stepC []
def cleanV (s : ByteArray) : Value := if 100 < s.size then .tuple #[.string ⟨#[]⟩, .agg #[.int .i64 2, .int .i64 0]] else joinV (cleanL s)

theorem slash_no_name {s : ByteArray} (h : vname s = true) : (47 : UInt8) ∉ s.data.toList := by
  intro hm
  unfold vname at h
  rw [Bool.and_eq_true] at h
  have hb := h.2
  unfold vbytes at hb
  rw [decide_eq_true_iff] at hb
  obtain ⟨j, hj, he⟩ := List.mem_iff_getElem.1 hm
  have hj' : j < s.size := by simpa using hj
  have h47 : s[j] = 47 := by
    have : s.data.toList[j] = s[j] := by simp [ByteArray.getElem_eq_getElem_data]
    rw [← this]; exact he
  have := hb j hj'
  rw [h47] at this
  revert this
  decide
theorem pieces_plain : ∀ (x : List UInt8), (47 : UInt8) ∉ x → pieces x = [x]
  | [], _ => rfl
  | c :: r, h => by
    have hc : c ≠ 47 := fun e => h (by simp [e])
    exact pieces_other hc (pieces_plain r (fun hm => h (by simp [hm])))
theorem pieces_cons : ∀ (x rest : List UInt8), (47 : UInt8) ∉ x → pieces (x ++ 47 :: rest) = x :: pieces rest
  | [], rest, _ => pieces_slash rest
  | c :: r, rest, h => by
    have hc : c ≠ 47 := fun e => h (by simp [e])
    exact pieces_other hc (pieces_cons r rest (fun hm => h (by simp [hm])))
theorem pieces_names : ∀ (x : ByteArray) (xs : List ByteArray), (∀ y ∈ x :: xs, vname y = true) → pieces (x.data.toList ++ xs.flatMap fun y => 47 :: y.data.toList) = (x :: xs).map (·.data.toList)
  | x, [], h => by
    rw [List.flatMap_nil, List.append_nil, pieces_plain _ (slash_no_name (h x (by simp)))]; rfl
  | x, y :: ys, h => by
    have ih := pieces_names y ys (fun z hz => h z (by simp [List.mem_cons.1 hz]))
    rw [List.flatMap_cons, List.cons_append, pieces_cons _ _ (slash_no_name (h x (by simp))), ih]; rfl
theorem comps_names (x : ByteArray) (xs : List ByteArray) (h : ∀ y ∈ x :: xs, vname y = true) : comps (x.data.toList ++ xs.flatMap fun y => 47 :: y.data.toList) = x :: xs := by
  unfold comps
  rw [pieces_names x xs h, List.map_map]
  have : (toB ∘ fun x : ByteArray => x.data.toList) = id := by funext x; exact toB_of x
  rw [this, List.map_id]

/-- A path that is joined of names splits into them. -/
theorem split_join {xs : List ByteArray} (hok : compFault xs = (0, 0)) (hl : ¬ 100 < (pstr xs).length) : splitF (toB (pstr xs)) = (0, 0) ∧ splitL (toB (pstr xs)) = xs := by
  have hv := (compFault_ok (by rw [hok])).2.2
  have hsz : ¬ 100 < (toB (pstr xs)).size := by
    have : (toB (pstr xs)).size = (pstr xs).length := by simp [toB, ByteArray.size]
    omega
  cases xs with
  | nil =>
    have h1 : splitF (toB (pstr [])) = (0, 0) := rfl
    refine ⟨h1, ?_⟩
    unfold splitL; rw [h1]; rfl
  | cons x ys =>
    have hp : pstr (x :: ys) = 47 :: (x.data.toList ++ ys.flatMap fun y => 47 :: y.data.toList) := by
      unfold pstr; rw [if_neg (by simp), List.flatMap_cons, List.cons_append]
    have hne : x.data.toList ++ (ys.flatMap fun y => 47 :: y.data.toList) ≠ [] := by
      intro e
      have h1 := (vname_size (hv x (by simp))).1
      have h2 : x.data.toList.length = x.size := by simp
      rw [(List.append_eq_nil_iff.1 e).1] at h2
      simp at h2; omega
    have hd : (toB (pstr (x :: ys))).data.toList = 47 :: (x.data.toList ++ ys.flatMap fun y => 47 :: y.data.toList) := by rw [toB_data, hp]
    have h1 : splitF (toB (pstr (x :: ys))) = (0, 0) := by
      unfold splitF
      rw [if_neg hsz, hd]
      simp only [if_true, if_neg hne]
      rw [comps_names x ys hv, hok]
    refine ⟨h1, ?_⟩
    unfold splitL
    rw [h1, hd]
    simp only [if_true, if_neg hne]
    exact comps_names x ys hv

theorem stepC_name {acc : List ByteArray} {e : ByteArray} (h : vname e = true) : stepC acc e = acc ++ [e] := by
  unfold vname at h
  rw [Bool.and_eq_true] at h
  obtain ⟨h1, _, h3, h4⟩ := vshape_iff.1 h.1
  have h0 : e.toList ≠ [] := by
    intro e0
    rw [Lib.toList_data] at e0
    have h2 : e.data.toList.length = e.size := by simp
    rw [e0] at h2; simp at h2; omega
  unfold stepC
  rw [if_neg (by rintro (h | h); exact h0 h; exact h3 h), if_neg h4]
theorem fold_names : ∀ (xs acc : List ByteArray), (∀ x ∈ xs, vname x = true) → xs.foldl stepC acc = acc ++ xs
  | [], acc, _ => by simp
  | x :: xs, acc, h => by
    rw [List.foldl_cons, stepC_name (h x (by simp)), fold_names xs _ (fun y hy => h y (by simp [hy])), List.append_assoc]; rfl
theorem stepC_empty (acc : List ByteArray) : stepC acc (toB []) = acc := by
  unfold stepC; rw [if_pos (Or.inl (by rw [Lib.toList_data, toB_data]))]

/-- Cleaning a valid path keeps its components. -/
theorem clean_valid {p : ByteArray} (h : (splitF p).1 = 0) : ¬ 100 < p.size ∧ cleanL p = splitL p ∧ compFault (splitL p) = (0, 0) := by
  have hF := h
  have hL : splitL p = match p.data.toList with
    | [] => []
    | _ :: r => if r = [] then [] else comps r := by unfold splitL; rw [if_pos h]; cases p.data.toList <;> rfl
  unfold splitF at hF
  split at hF
  · cases hF
  · rename_i hl
    refine ⟨hl, ?_⟩
    split at hF
    · cases hF
    · rename_i c r hd
      split at hF
      · rename_i hc
        subst hc
        rw [hd] at hL
        simp only at hL
        by_cases hr : r = []
        · subst hr
          rw [if_pos rfl] at hL
          rw [hL]
          refine ⟨?_, compFault_fine (by simp) (fun j hj => absurd hj (by simp))⟩
          unfold cleanL; rw [hd]
          show [toB [], toB []].foldl stepC [] = []
          rw [List.foldl_cons, stepC_empty, List.foldl_cons, stepC_empty]; rfl
        · rw [if_neg hr] at hL hF
          rw [hL]
          have hok := compFault_ok hF
          refine ⟨?_, Prod.ext hF hok.2.1⟩
          unfold cleanL; rw [hd]
          have : comps (47 :: r) = toB [] :: comps r := by unfold comps; rw [pieces_slash]; rfl
          rw [this, List.foldl_cons, stepC_empty, fold_names _ _ hok.2.2]; rfl
      · cases hF
theorem pstr_valid {p : ByteArray} (h : (splitF p).1 = 0) : joinV (splitL p) = .tuple #[.string p, .agg #[.int .i64 0, .int .i64 0]] := by
  obtain ⟨hl, _, hok⟩ := clean_valid h
  have hp := split_pstr h
  have hlen : ¬ 100 < (pstr (splitL p)).length := by
    rw [hp]
    have : p.data.toList.length = p.size := by simp
    omega
  rw [joinV_good hok hlen, hp]
theorem cleanV_valid {p : ByteArray} (h : (splitF p).1 = 0) : cleanV p = .tuple #[.string p, .agg #[.int .i64 0, .int .i64 0]] := by
  obtain ⟨hl, hc, _⟩ := clean_valid h
  unfold cleanV; rw [if_neg hl, hc]; exact pstr_valid h

/-- Clean returns a fault and no path, or a valid path. -/
theorem cleanV_cases (s : ByteArray) : (∃ c i, c ≠ 0 ∧ cleanV s = .tuple #[.string ⟨#[]⟩, .agg #[.int .i64 c, .int .i64 i]]) ∨
    (∃ p, (splitF p).1 = 0 ∧ cleanV s = .tuple #[.string p, .agg #[.int .i64 0, .int .i64 0]]) := by
  unfold cleanV
  split
  · exact .inl ⟨2, 0, by decide, rfl⟩
  · by_cases hc : (compFault (cleanL s)).1 = 0
    · have hok : compFault (cleanL s) = (0, 0) := Prod.ext hc (compFault_ok hc).2.1
      by_cases hl : 100 < (pstr (cleanL s)).length
      · exact .inl ⟨2, 0, by decide, joinV_long hok hl⟩
      · refine .inr ⟨toB (pstr (cleanL s)), ?_, joinV_good hok hl⟩
        rw [(split_join hok hl).1]
    · exact .inl ⟨_, _, hc, joinV_fault (i := (compFault (cleanL s)).2) rfl hc⟩

end Go.Proofs.YtmjpcpnjppmnkaaDoor
