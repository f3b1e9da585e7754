/- A row of periods of one's own, sorted by the library. -/
import Derived.Test.YtbdpdobaacbkkaaDoorG
import Derived.Sort.OwnSortedInts
namespace Go.Proofs.YtbdpdobaacbkkaaDoor
open Go.Shelf Go.RowKit Go.Lib Go.Sort
set_option linter.unusedVariables false

theorem holds_own {w : World} {g : Nat} {cur : Array Value} {L : List Per} (hb : w.heap[g]? = some (.cells cur 23 (0, 0))) (ht : cur.toList.take (L.length * 2) = encP L) : HoldsK encK 2 w g 0 L.toArray := by
  intro j hj
  have hj' : j < L.length * 2 := by simpa using hj
  refine ⟨?_, by simp [World.frozen?, hb]⟩
  have h1 := flatK_enc L j hj'
  rw [← ht, List.getElem?_take_of_lt hj'] at h1
  rw [cell_of_row _ _ _ _ _ _ hb, Nat.zero_add, ← Array.getElem?_toList, h1]
  rfl

theorem heap_sortedK {w : World} {g n : Nat} {os : Array Obj} {cur : Array Value} {e : TypeId} {fr : Nat × Nat} (d : Array Per) (hb : w.heap[g]? = some (.cells cur e fr)) :
    (sortWorldK encK 2 w g 0 n d os).heap[g]? = some (.cells (putCells id 0 (flatK encK 2 d) cur) e fr) := by
  have hg : g < w.heap.size := (Array.getElem?_eq_some_iff.1 hb).1
  unfold sortWorldK putRowK
  rw [heap_grow_old _ _ (by simpa using hg)]
  simp [putRow, mapBlock, Sort.ahead, Array.getElem?_modify, hb, onCells]

theorem fr_sortedK {w : World} {g n : Nat} {os : Array Obj} (d : Array Per) : Fr w (sortWorldK encK 2 w g 0 n d os) (fun k => k = g) := by
  unfold sortWorldK putRowK
  refine ⟨rfl, rfl, rfl, by simp, fun k hk hne => ?_⟩
  rw [heap_grow_old _ _ (by simpa using hk)]
  have : g ≠ k := fun e => hne e.symm
  simp [putRow, mapBlock, Sort.ahead, Array.getElem?_modify, this]

theorem take_putCellsK (cur : Array Value) (T : List Per) (h : T.length * 2 ≤ cur.size) : (putCells id 0 (flatK encK 2 T.toArray) cur).toList.take (T.length * 2) = encP T := by
  apply List.ext_getElem?
  intro j
  by_cases hj : j < T.length * 2
  · rw [List.getElem?_take_of_lt hj, Array.getElem?_toList, flatK_enc T j hj]
    simp [putCells, hj, show j < cur.size by omega]
  · rw [List.getElem?_take_eq_none (by omega), List.getElem?_eq_none (by rw [length_encP]; omega)]

/-- SortFunc by where they begin, at a row of one's own. -/
theorem sortOwn_any (v : Value) (L : List Per) (w : World) (hv : OwnP w v L) (g cap : Nat) (hs : v = .slice (some ⟨g, 0, none⟩) L.length cap) (hL : L.length ≤ 8796093022000) :
    Calls Tryd.prog 21 #[v, .func (.func 22) #[] #[]] w fun e w' => e = .returned (.tuple #[]) ∧ ∃ T : List Per, T.Perm L ∧ T.Pairwise (fun x y => x.lo ≤ y.lo) ∧ OwnP w' v T ∧ Fr w w' (fun k => k = g) := by
  rcases hv.2 with ⟨h1, h2⟩ | ⟨g', cap', cur, hv', hb0, hg, hle, hmx, hcs, htk⟩
  · rw [hs] at h1; simp at h1
  rw [hs] at hv'
  simp only [Value.slice.injEq, Option.some.injEq, Addr.mk.injEq, and_true, true_and] at hv'
  obtain ⟨rfl, rfl⟩ := hv'
  subst hs
  have hlt : g < w.heap.size := (Array.getElem?_eq_some_iff.1 hg).1
  have hc := sortFunc_any g 0 cap L.toArray w (holds_own hg htk) hlt (by simp; omega)
  rw [show L.toArray.size = L.length by simp] at hc
  refine hc.mono ?_
  rintro e w' ⟨rfl, d', n, os, hp, hso, rfl⟩
  have hp' := perm_lists (d := L.toArray) (by simpa using hp)
  have hl : d'.toList.length = L.length := by simpa using hp'.1
  refine ⟨rfl, d'.toList, by simpa using hp'.2, sorted_lists (by simpa using hl) hso, ?_, fr_sortedK d'⟩
  refine ⟨by rw [length_encP], .inr ⟨g, cap, _, by rw [hl], hb0, heap_sortedK _ hg, by omega, hmx, by simp [putCells, hcs], ?_⟩⟩
  have := take_putCellsK cur d'.toList (by rw [hl]; omega)
  simpa using this
end Go.Proofs.YtbdpdobaacbkkaaDoor
