/- A sorted list compacted is shorter just where something stands twice. -/
import Derived.Test.YtdeopneififnnaaJ
namespace Go.Proofs.Ytdeopneififnnaa
open Go.RowKit Go.Sort
set_option linter.unusedVariables false

theorem compact_short {α : Type} [Inhabited α] [DecidableEq α] (ts : List α) : (Lib.compact ts).length < ts.length ↔ ∃ j, 0 < j ∧ j < ts.length ∧ ts[j]? = ts[j - 1]? := by
  have hlen : (Lib.compact ts).length = ((List.range ts.length).filter (Lib.keeps ts.toArray)).length := by simp [Lib.compact, Lib.compactUpTo]
  rw [hlen]
  constructor
  · intro h
    refine Classical.byContradiction fun hno => ?_
    have : (List.range ts.length).filter (Lib.keeps ts.toArray) = List.range ts.length := by
      rw [List.filter_eq_self]
      intro j hj
      have hj := List.mem_range.1 hj
      unfold Lib.keeps
      rw [decide_eq_true_eq]
      refine Classical.or_iff_not_imp_left.2 fun h0 he => hno ⟨j, by omega, hj, ?_⟩
      rw [List.getElem?_eq_getElem hj, List.getElem?_eq_getElem (show j - 1 < ts.length by omega)]
      have e1 : ts.toArray[j]! = ts[j] := by simp [getElem!_pos, hj]
      have e2 : ts.toArray[j - 1]! = ts[j - 1] := by simp [getElem!_pos, show j - 1 < ts.length by omega]
      rw [e1, e2] at he
      rw [he]
    rw [this] at h
    simp at h
  · rintro ⟨j, h0, hj, he⟩
    have hk : Lib.keeps ts.toArray j = false := Lib.keeps_neg h0 (by
      rw [List.getElem?_eq_getElem hj, List.getElem?_eq_getElem (show j - 1 < ts.length by omega)] at he
      have e1 : ts.toArray[j]! = ts[j] := by simp [getElem!_pos, hj]
      have e2 : ts.toArray[j - 1]! = ts[j - 1] := by simp [getElem!_pos, show j - 1 < ts.length by omega]
      rw [e1, e2]
      exact Option.some.inj he)
    have h2 := (List.length_filter_lt_length_iff_exists (p := Lib.keeps ts.toArray) (l := List.range ts.length)).2 ⟨j, List.mem_range.2 hj, by rw [hk]; simp⟩
    simpa using h2
theorem sorted_dup {ts : List (List UInt8)} (hs : ts.Pairwise (fun x y => x ≤ y)) : (∃ j, 0 < j ∧ j < ts.length ∧ ts[j]? = ts[j - 1]?) ↔ ¬ ts.Nodup := by
  constructor
  · rintro ⟨j, h0, hj, he⟩ hn
    have := List.pairwise_iff_getElem.1 hn (j - 1) j (by omega) hj (by omega)
    rw [List.getElem?_eq_getElem hj, List.getElem?_eq_getElem (show j - 1 < ts.length by omega)] at he
    exact this (Option.some.inj he).symm
  · intro hn
    refine Classical.byContradiction fun hno => hn (List.pairwise_iff_getElem.2 fun i j hi hj hij he => hno ⟨j, by omega, hj, ?_⟩)
    rw [List.getElem?_eq_getElem hj, List.getElem?_eq_getElem (show j - 1 < ts.length by omega)]
    rcases Nat.lt_or_ge i (j - 1) with h | h
    · have h1 := List.pairwise_iff_getElem.1 hs i (j - 1) hi (by omega) h
      have h2 := List.pairwise_iff_getElem.1 hs (j - 1) j (by omega) hj (by omega)
      rw [← he] at h2
      have h3 : ts[i] = ts[j - 1] := List.le_antisymm h1 h2
      rw [← h3, he]
    · have : i = j - 1 := by omega
      subst this
      rw [he]
theorem srt_sorted (zs : List ByteArray) : (srt zs).Pairwise (fun x y => x ≤ y) := by
  have := List.pairwise_mergeSort (le := fun x y : List UInt8 => decide (x ≤ y)) (fun a b c h1 h2 => by simp only [decide_eq_true_eq] at *; exact List.le_trans h1 h2) (fun a b => by simp only [Bool.or_eq_true, decide_eq_true_eq]; exact List.le_total a b) (zs.map (fun x => x.data.toList))
  exact this.imp (fun h => by simpa using h)
/-- Twice: some name stands there more than once. -/
theorem twice_iff (zs : List ByteArray) : (Lib.compact (srt zs)).length < zs.length ↔ ¬ zs.Nodup := by
  rw [← srt_length zs, compact_short, sorted_dup (srt_sorted zs)]
  have hp : (srt zs).Perm (zs.map (fun x => x.data.toList)) := List.mergeSort_perm _ _
  rw [hp.nodup_iff]
  refine not_congr ⟨fun h => (List.pairwise_map.1 h).imp (fun hne he => hne (by rw [he])), fun h => List.pairwise_map.2 (h.imp (fun hne he => hne ?_))⟩
  rename_i a b
  cases a; cases b
  simp only [ByteArray.mk.injEq] at *
  exact Array.toList_inj.1 he
end Go.Proofs.Ytdeopneififnnaa
