/- Splitting a joined path gives its components. No program. -/
import Derived.Test.YtglaohaeaofnhaaGreatDoorPathSplit
namespace Go.Proofs.YtglaohaeaofnhaaGreatDoor
open Go.RowKit

theorem slash_no_name {s : ByteArray} (h : vname s = true) : (47 : UInt8) ∉ s.data.toList := by
  intro hm
  unfold vname at h
  rw [Bool.and_eq_true] at h
  have hb := h.2
  unfold vbytes at hb
  rw [decide_eq_true_iff] at hb
  obtain ⟨j, hj, he⟩ := List.mem_iff_getElem.1 hm
  have hj' : j < s.size := by simpa using hj
  have h47 : s[j] = 47 := by
    have : s.data.toList[j] = s[j] := by simp [ByteArray.getElem_eq_getElem_data]
    rw [← this]; exact he
  have := hb j hj'
  rw [h47] at this
  revert this
  decide
theorem pieces_plain : ∀ (x : List UInt8), (47 : UInt8) ∉ x → pieces x = [x]
  | [], _ => rfl
  | c :: r, h => by
    have hc : c ≠ 47 := fun e => h (by simp [e])
    exact pieces_other hc (pieces_plain r (fun hm => h (by simp [hm])))
theorem pieces_cons : ∀ (x rest : List UInt8), (47 : UInt8) ∉ x → pieces (x ++ 47 :: rest) = x :: pieces rest
  | [], rest, _ => pieces_slash rest
  | c :: r, rest, h => by
    have hc : c ≠ 47 := fun e => h (by simp [e])
    exact pieces_other hc (pieces_cons r rest (fun hm => h (by simp [hm])))
theorem pieces_names : ∀ (x : ByteArray) (xs : List ByteArray), (∀ y ∈ x :: xs, vname y = true) → pieces (x.data.toList ++ xs.flatMap fun y => 47 :: y.data.toList) = (x :: xs).map (·.data.toList)
  | x, [], h => by
    rw [List.flatMap_nil, List.append_nil, pieces_plain _ (slash_no_name (h x (by simp)))]; rfl
  | x, y :: ys, h => by
    have ih := pieces_names y ys (fun z hz => h z (by simp [List.mem_cons.1 hz]))
    rw [List.flatMap_cons, List.cons_append, pieces_cons _ _ (slash_no_name (h x (by simp))), ih]; rfl
theorem comps_names (x : ByteArray) (xs : List ByteArray) (h : ∀ y ∈ x :: xs, vname y = true) : comps (x.data.toList ++ xs.flatMap fun y => 47 :: y.data.toList) = x :: xs := by
  unfold comps
  rw [pieces_names x xs h, List.map_map]
  have : (toB ∘ fun x : ByteArray => x.data.toList) = id := by funext x; exact toB_of x
  rw [this, List.map_id]

/-- A path that is joined of names splits into them. -/
theorem split_join {xs : List ByteArray} (hok : compFault xs = (0, 0)) (hl : ¬ 100 < (pstr xs).length) : splitF (toB (pstr xs)) = (0, 0) ∧ splitL (toB (pstr xs)) = xs := by
  have hv := (compFault_ok (by rw [hok])).2.2
  have hsz : ¬ 100 < (toB (pstr xs)).size := by
    have : (toB (pstr xs)).size = (pstr xs).length := by simp [toB, ByteArray.size]
    omega
  cases xs with
  | nil =>
    have h1 : splitF (toB (pstr [])) = (0, 0) := rfl
    refine ⟨h1, ?_⟩
    unfold splitL; rw [h1]; rfl
  | cons x ys =>
    have hp : pstr (x :: ys) = 47 :: (x.data.toList ++ ys.flatMap fun y => 47 :: y.data.toList) := by
      unfold pstr; rw [if_neg (by simp), List.flatMap_cons, List.cons_append]
    have hne : x.data.toList ++ (ys.flatMap fun y => 47 :: y.data.toList) ≠ [] := by
      intro e
      have h1 := (vname_size (hv x (by simp))).1
      have h2 : x.data.toList.length = x.size := by simp
      rw [(List.append_eq_nil_iff.1 e).1] at h2
      simp at h2; omega
    have hd : (toB (pstr (x :: ys))).data.toList = 47 :: (x.data.toList ++ ys.flatMap fun y => 47 :: y.data.toList) := by rw [toB_data, hp]
    have h1 : splitF (toB (pstr (x :: ys))) = (0, 0) := by
      unfold splitF
      rw [if_neg hsz, hd]
      simp only [if_true, if_neg hne]
      rw [comps_names x ys hv, hok]
    refine ⟨h1, ?_⟩
    unfold splitL
    rw [h1, hd]
    simp only [if_true, if_neg hne]
    exact comps_names x ys hv


end Go.Proofs.YtglaohaeaofnhaaGreatDoor
