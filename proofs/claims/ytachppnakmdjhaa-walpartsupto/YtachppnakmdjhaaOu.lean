/- What comes in, where its bulk is told. -/
import Derived.Test.YtachppnakmdjhaaO
namespace Go.Proofs.Ytachppnakmdjhaa
open Go.ChangeShapes Go.WideShapes Go.ChangeAt Go.RowKit Go.Deep
set_option linter.unusedVariables false

theorem bulk_one_le {H : Type} (d : DataW H) : 1 ≤ Rows.uptoBulk d := by
  cases d with
  | lit l => cases l <;> simp [Rows.uptoBulk]
  | nil => simp [Rows.uptoBulk]
  | ptr d => simp [Rows.uptoBulk]
  | slice elems spare => simp [Rows.uptoBulk]
  | agg parts => simp [Rows.uptoBulk]
  | iface t d => simp [Rows.uptoBulk]
  | map entries => simp [Rows.uptoBulk]
  | held h => simp [Rows.uptoBulk]

theorem bulk_part_le {H : Type} {d : DataW H} {l : List (DataW H)} (h : d ∈ l) : Rows.uptoBulk d ≤ Rows.uptoBulkAll l := by
  induction l with
  | nil => cases h
  | cons x r ih =>
    simp only [Rows.uptoBulkAll]
    cases List.mem_cons.1 h with
    | inl e => subst e; omega
    | inr e => have := ih e; omega

theorem bulk_length_le {H : Type} (l : List (DataW H)) : l.length ≤ Rows.uptoBulkAll l := by
  induction l with
  | nil => simp [Rows.uptoBulkAll]
  | cons x r ih => have := bulk_one_le x; simp only [Rows.uptoBulkAll, List.length_cons]; omega

theorem bulk_slice_le {H : Type} (elems spare : List (DataW H)) : elems.length + spare.length + 1 ≤ Rows.uptoBulk (.slice elems spare) := by
  have h1 := bulk_length_le elems
  have h2 := bulk_length_le spare
  simp only [Rows.uptoBulk]
  omega

theorem bulk_bound {H : Type} {l : List (DataW H)} (hk : Rows.uptoSmall H l = true) : Rows.uptoBulkAll l ≤ 1048576 := of_decide_eq_true hk

theorem trod_bytes_up {H : Type} {enc : TypeId × Value → H} {W : World} {fuel : Nat} {v : Value} {d : DataW H} {p : List MemPlace} (h : DataW.trod enc Try.prog W 0 (fun _ => true) true fuel 45 [v] = some (d, p)) :
    ∃ a n c l, v = .slice a n c ∧ BI W a n l ∧ n + 1 ≤ Rows.uptoBulk d ∧ n ≤ c ∧ (a = none → c = 0) := by
  rcases open_ints Try.underlying45 Try.underlying5 (by kernel_rfl) h with ⟨hcs, hd⟩ | ⟨x, l, c, zs, hcs, _, hl, hm, hz, hx, hcell, hwz⟩
  · simp only [List.cons.injEq, and_true] at hcs
    subst hcs
    exact ⟨none, 0, 0, [], rfl, ⟨rfl, .inl rfl⟩, bulk_one_le d, Nat.le_refl _, fun _ => rfl⟩
  · simp only [List.cons.injEq, and_true] at hcs
    subst hcs
    simp only [Prod.mk.injEq] at hx
    obtain ⟨rfl, rfl⟩ := hx
    have hz' : zs.length = c := by simpa using hz
    have := bulk_slice_le (H := H) (lits .u8 (zs.take l)) (lits .u8 (zs.drop l))
    refine ⟨_, _, _, _, rfl, bi_ints hl hz' hcell hwz, ?_, hl, by simp⟩
    simp only [lits, List.length_map, List.length_take, List.length_drop] at this ⊢
    omega
theorem bulkAll_append {H : Type} (a b : List (DataW H)) : Rows.uptoBulkAll (a ++ b) = Rows.uptoBulkAll a + Rows.uptoBulkAll b := by
  induction a with
  | nil => simp [Rows.uptoBulkAll]
  | cons x r ih => simp only [List.cons_append, Rows.uptoBulkAll, ih]; omega
theorem flatten_bulk {H : Type} (f : Nat → List UInt8) (D : Nat → DataW H) : ∀ n, (∀ j, j < n → (f j).length ≤ Rows.uptoBulk (D j)) → ((List.range n).map f).flatten.length ≤ Rows.uptoBulkAll ((List.range n).map D)
  | 0, _ => by simp
  | n + 1, h => by
    have ih := flatten_bulk f D n (fun j hj => h j (by omega))
    have h1 := h n (by omega)
    rw [List.range_succ, List.map_append, List.map_append, List.flatten_append, List.length_append, bulkAll_append]
    simp only [List.map_cons, List.map_nil, List.flatten_cons, List.flatten_nil, List.append_nil, Rows.uptoBulkAll]
    omega

set_option maxRecDepth 100000 in
theorem open_recs_up {H : Type} {enc : TypeId × Value → H} {W : World} {a : Option Addr} {len cap : Nat} {d : DataW H} {p : List MemPlace} (h : DataW.Trod enc Try.prog W 0 (fun _ => true) true 66 (.slice a len cap) d p) (hq : Rows.uptoBulk d ≤ 1048576) :
    ∃ L : List (List UInt8), L.length = len ∧ Recs W a L ∧ len ≤ 1048576 ∧ L.flatten.length ≤ 1048576 := by
  obtain ⟨fuel, hf⟩ := h
  rcases open_slice1 Try.underlying66 cells45 hf with ⟨hcs, _⟩ | ⟨x, l, c, m, n, V, D, Pl, hcs, _, hl, _, hm, hx, hel⟩
  · simp [Value.cells] at hcs
    obtain ⟨rfl, rfl, rfl⟩ := hcs
    exact ⟨[], rfl, .inl rfl, by omega, by simp⟩
  · simp [Value.cells] at hcs
    obtain ⟨rfl, rfl, rfl⟩ := hcs
    simp only [Prod.mk.injEq] at hx
    obtain ⟨rfl, _⟩ := hx
    simp only [if_true] at hm
    subst hm
    have hbl := bulk_slice_le (H := H) ((List.range len).map D) ((List.range (m - len)).map fun j => D (len + j))
    have hba : Rows.uptoBulkAll ((List.range len).map D) ≤ 1048576 := by
      simp only [Rows.uptoBulk] at hq
      omega
    simp only [List.length_map, List.length_range] at hbl
    have key : ∀ j, j < len → ∃ l : List UInt8, l.length ≤ Rows.uptoBulk (D j) ∧ ∃ y n c, W.cell? (x.add j) = some (.slice y n c) ∧ BI W y n l ∧ n ≤ 140737488351232 ∧ n ≤ c ∧ (y = none → c = 0) := by
      intro j hj
      obtain ⟨h1, h2⟩ := hel j (by omega)
      obtain ⟨y, n', c', l, he, b1, b2, b3, b4⟩ := trod_bytes_up h2
      have hle : Rows.uptoBulk (D j) ≤ Rows.uptoBulkAll ((List.range len).map D) := bulk_part_le (List.mem_map.2 ⟨j, List.mem_range.2 hj, rfl⟩)
      exact ⟨l, by rw [b1.1]; omega, y, n', c', by rw [h1, he], b1, by omega, b3, b4⟩
    refine ⟨(List.range len).map fun j => if hj : j < len then Classical.choose (key j hj) else [], by simp, ?_, by omega, ?_⟩
    · by_cases h0 : len = 0
      · left; subst h0; rfl
      · right
        obtain ⟨b, off, spot⟩ := x
        have hspot : spot = none := by
          obtain ⟨_, _, _, _, _, h1, _⟩ := key 0 (by omega)
          simpa [Addr.add] using World.cell?_spot h1
        subst hspot
        refine ⟨b, off, rfl, fun j l hl => ?_⟩
        simp only [List.getElem?_map] at hl
        by_cases hj : j < len
        · simp only [List.getElem?_range, hj, Option.map_some, Option.some.injEq, dif_pos] at hl
          have hs := (Classical.choose_spec (key j hj)).2
          rw [hl] at hs
          simp only [Addr.add_mid] at hs
          exact hs
        · rw [List.getElem?_eq_none (by simpa using hj)] at hl
          cases hl
    · refine Nat.le_trans (flatten_bulk _ D len (fun j hj => ?_)) hba
      rw [dif_pos hj]
      exact (Classical.choose_spec (key j hj)).1
end Go.Proofs.Ytachppnakmdjhaa
