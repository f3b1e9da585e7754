/- What comes in: the bulk. -/
import Derived.Test.YtaikhmedehbfbaaOi
namespace Go.Proofs.Ytaikhmedehbfbaa
open Go.ChangeShapes Go.WideShapes Go.ChangeAt Go.RowKit Go.Deep
set_option linter.unusedVariables false

theorem bulk_one_le {H : Type} (d : DataW H) : 1 ≤ Rows.uptoBulk d := by
  cases d with
  | lit l => cases l <;> simp [Rows.uptoBulk]
  | nil => simp [Rows.uptoBulk]
  | ptr d => simp [Rows.uptoBulk]
  | slice elems spare => simp [Rows.uptoBulk]
  | agg parts => simp [Rows.uptoBulk]
  | iface t d => simp [Rows.uptoBulk]
  | map entries => simp [Rows.uptoBulk]
  | held h => simp [Rows.uptoBulk]

theorem bulk_part_le {H : Type} {d : DataW H} {l : List (DataW H)} (h : d ∈ l) : Rows.uptoBulk d ≤ Rows.uptoBulkAll l := by
  induction l with
  | nil => cases h
  | cons x r ih =>
    simp only [Rows.uptoBulkAll]
    cases List.mem_cons.1 h with
    | inl e => subst e; omega
    | inr e => have := ih e; omega

theorem bulk_length_le {H : Type} (l : List (DataW H)) : l.length ≤ Rows.uptoBulkAll l := by
  induction l with
  | nil => simp [Rows.uptoBulkAll]
  | cons x r ih => have := bulk_one_le x; simp only [Rows.uptoBulkAll, List.length_cons]; omega

theorem bulk_slice_le {H : Type} (elems spare : List (DataW H)) : elems.length + spare.length + 1 ≤ Rows.uptoBulk (.slice elems spare) := by
  have h1 := bulk_length_le elems
  have h2 := bulk_length_le spare
  simp only [Rows.uptoBulk]
  omega

theorem bulk_bound {H : Type} {l : List (DataW H)} (hk : Rows.uptoSmall H l = true) : Rows.uptoBulkAll l ≤ 1048576 := of_decide_eq_true hk

set_option maxRecDepth 100000 in
theorem open_persU {H : Type} {enc : TypeId × Value → H} {W : World} {a : Option Addr} {len cap : Nat} {d : DataW H} {p : List MemPlace} (h : DataW.Trod enc Try.prog W 0 (fun _ => true) true 24 (.slice a len cap) d p) :
    ∃ L : List Per, L.length = len ∧ Pers W a L ∧ len ≤ Rows.uptoBulk d ∧ ∀ q ∈ L, Fit q := by
  obtain ⟨fuel, hf⟩ := h
  rcases open_slice Try.underlying24 hf with ⟨hcs, _⟩ | ⟨x, l, c, m, n, D, Pl, hcs, _, hl, _, hm, hx, hel⟩
  · simp [Value.cells] at hcs
    obtain ⟨rfl, rfl, rfl⟩ := hcs
    exact ⟨[], rfl, .inl rfl, Nat.zero_le _, by simp⟩
  · simp [Value.cells] at hcs
    obtain ⟨rfl, rfl, rfl⟩ := hcs
    simp only [Prod.mk.injEq] at hx
    obtain ⟨rfl, _⟩ := hx
    simp only [if_true] at hm
    subst hm
    rw [cells23] at hel
    have key : ∀ j, j < len → ∃ o : Per, W.cells? 0 (x.add (j * 2)) 2 = some (cellsP o) ∧ Fit o := by
      intro j hj
      obtain ⟨cs', h1, h2⟩ := hel j (by omega)
      obtain ⟨o, hcs, hw⟩ := trod_per h2
      subst hcs
      exact ⟨o, h1, hw⟩
    refine ⟨(List.range len).map fun j => if hj : j < len then Classical.choose (key j hj) else ⟨0, 0⟩, by simp, ?_, ?_, ?_⟩
    · by_cases h0 : len = 0
      · left; subst h0; rfl
      · right
        obtain ⟨b, off, spot⟩ := x
        have hspot : spot = none := by
          obtain ⟨o, h1, _⟩ := key 0 (by omega)
          have h2 := cell_of_cells h1 0 (by omega)
          simpa [Addr.add] using World.cell?_spot (h2.trans (show (cellsP o)[0]? = some (.int .i64 o.lo) from rfl))
        subst hspot
        refine ⟨b, off, rfl, fun j o ho => ?_⟩
        simp only [List.getElem?_map] at ho
        by_cases hj : j < len
        · simp only [List.getElem?_range, hj, Option.map_some, Option.some.injEq, dif_pos] at ho
          have hs := Classical.choose_spec (key j hj)
          rw [ho] at hs
          have e : ∀ i v, (cellsP o)[i]? = some v → W.cell? ⟨b, off + j * 2 + i, none⟩ = some v := by
            intro i v hv
            have hi : i < 2 := (List.getElem?_eq_some_iff.1 hv).1
            have h3 := cell_of_cells hs.1 i hi
            rw [Addr.add_mid, Addr.add_mid] at h3
            rw [h3]
            exact hv
          exact ⟨e 0 _ rfl, e 1 _ rfl⟩
        · rw [List.getElem?_eq_none (by simpa using hj)] at ho
          cases ho
    · have := bulk_slice_le ((List.range len).map D) ((List.range (m - len)).map fun j => D (len + j))
      simp only [List.length_map, List.length_range] at this
      omega
    · intro q hq
      obtain ⟨j, hj, rfl⟩ := List.mem_map.1 hq
      have hj' := List.mem_range.1 hj
      simp only [hj', dif_pos]
      exact (Classical.choose_spec (key j hj')).2
end Go.Proofs.Ytaikhmedehbfbaa
