/- What the library's sort answers, as lists; a row of one's own as the sort's row. -/
import Derived.Test.YtbdpdobaacbkkaaDoorF
namespace Go.Proofs.YtbdpdobaacbkkaaDoor
open Go.Shelf Go.RowKit Go.Lib Go.Sort
set_option linter.unusedVariables false

theorem perm_lists {d d' : Array Per} (h : PermIn 0 d.size d d') : d'.size = d.size ∧ d'.toList.Perm d.toList := by
  obtain ⟨hs, -, hp⟩ := h
  refine ⟨hs, ?_⟩
  have e : d'.extract 0 d.size = d' := by rw [← hs]; simp
  rw [e] at hp
  simpa using hp

theorem sorted_lists {d' : Array Per} {n : Nat} (hs : d'.size = n) (h : SortedIn (ltOf fun x y : Per => Lib.compareInt x.lo y.lo) 0 n d') : d'.toList.Pairwise (fun x y => x.lo ≤ y.lo) := by
  rw [List.pairwise_iff_getElem]
  intro i j hi hj hij
  have hi' : i < d'.size := by simpa using hi
  have hj' : j < d'.size := by simpa using hj
  have := h i j (Nat.zero_le _) hij (by omega)
  rw [ltLo, getElem!_pos d' i hi', getElem!_pos d' j hj'] at this
  simp at this
  simpa using this

/-- A list's cells, flat, are those that a row of periods holds. -/
theorem flatK_enc (L : List Per) (t : Nat) (ht : t < L.length * 2) : (encP L)[t]? = some (flatK encK 2 L.toArray)[t]! := by
  rw [get_flatK _ _ _ t (by simpa using ht)]
  have hq : t / 2 < L.length := by omega
  have hp : L[t / 2]? = some L[t / 2] := List.getElem?_eq_getElem hq
  have := encP_get L (t / 2) _ hp (t % 2) (Nat.mod_lt _ (by omega))
  rw [show t / 2 * 2 + t % 2 = t by omega] at this
  rw [this, getElem!_pos L.toArray (t / 2) (by simpa using hq)]
  simp only [List.getElem_toArray]
  rcases Nat.mod_two_eq_zero_or_one t with h | h <;> rw [h] <;> rfl
end Go.Proofs.YtbdpdobaacbkkaaDoor
