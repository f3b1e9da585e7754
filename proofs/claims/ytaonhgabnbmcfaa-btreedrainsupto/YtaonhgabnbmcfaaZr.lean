/- What comes in for BtreeDrains. -/
import Derived.Test.YtaonhgabnbmcfaaZq
namespace Go.Proofs.Ytaonhgabnbmcfaa
open Go.ChangeShapes Go.WideShapes Go.ChangeAt Go.RowKit Go.Deep
set_option maxRecDepth 100000
set_option linter.unusedVariables false

theorem open_strs2 {H : Type} {enc : TypeId × Value → H} {W : World} {v : Value} {d : DataW H} {p : List MemPlace} (h : ∃ fuel, DataW.trod enc Try.prog W 0 (fun _ => true) true fuel 41 [v] = some (d, p)) (hs : Rows.uptoBulk d ≤ 1048576) : ∃ (a : Option Addr) (n c : Nat) (K : List ByteArray), v = .slice a n c ∧ K.length = n ∧ n ≤ 1048576 ∧ (∀ k ∈ K, k.size ≤ 1048576) ∧ StrsIn (fun k => k < W.heap.size) W a K ∧ (a = none → c = 0) := by
  obtain ⟨fuel, h⟩ := h
  rcases open_strings Try.underlying41 Try.underlying9 cells9 h with ⟨hcs, _⟩ | ⟨x, l, c, zs, hcs, _, hl, _, hlen, hx, hel, hwf⟩
  · simp only [List.cons.injEq, and_true] at hcs
    subst hcs
    exact ⟨none, 0, 0, [], rfl, rfl, Nat.zero_le _, (fun k hk => by simp at hk), (fun k v hk => by simp at hk), fun _ => rfl⟩
  · simp only [List.cons.injEq, and_true] at hcs
    subst hcs
    simp only [Prod.mk.injEq] at hx
    obtain ⟨rfl, _⟩ := hx
    simp only [if_true] at hlen
    have hll : (zs.take l).length = l := by rw [List.length_take]; omega
    simp only [Rows.uptoBulk] at hs
    refine ⟨some x, l, c, zs.take l, rfl, hll, ?_, ?_, ?_, fun h => (by cases h)⟩
    · have h1 := bulk_length_le (strs (zs.take l) : List (DataW H))
      have h2 : (strs (zs.take l) : List (DataW H)).length = l := by simp [strs]; omega
      omega
    · intro k hk
      have h3 : (DataW.lit (.string k.data.toList) : DataW H) ∈ (strs (zs.take l) : List (DataW H)) := by
        unfold strs
        exact List.mem_map.2 ⟨k, hk, rfl⟩
      have h4 := bulk_part_le h3
      simp only [Rows.uptoBulk] at h4
      have h5 : k.data.toList.length = k.size := by rw [Array.length_toList]; rfl
      omega
    · intro k v hk
      have hk1 : k < l := by have := (List.getElem?_eq_some_iff.1 hk).1; omega
      rw [List.getElem?_take_of_lt hk1] at hk
      have h2 := hel k (by omega)
      obtain ⟨b, off, spot⟩ := x
      have hspot : spot = none := by have h0 := hel 0 (by omega); simpa [Addr.add] using World.cell?_spot h0
      subst hspot
      rw [Addr.add_mid] at h2
      refine ⟨b, off, rfl, World.block_lt_of_cell? W _ h2, ?_⟩
      rw [h2, List.getD_eq_getElem?_getD, hk]
      rfl
theorem cells3' : Try.prog.cellsOf 3 = 1 := by kernel_rfl
theorem open_ints51 {H : Type} {enc : TypeId × Value → H} {W : World} {v : Value} {d : DataW H} {p : List MemPlace} (h : ∃ fuel, DataW.trod enc Try.prog W 0 (fun _ => true) true fuel 51 [v] = some (d, p)) (hs : Rows.uptoBulk d ≤ 1048576) : ∃ (a : Option Addr) (n c : Nat) (M : List Int), v = .slice a n c ∧ M.length = n ∧ n ≤ 1048576 ∧ (∀ z ∈ M, In64 z) ∧ IntsIn (fun k => k < W.heap.size) W a M := by
  obtain ⟨fuel, h⟩ := h
  rcases open_ints Try.underlying51 Try.underlying3 cells3' h with ⟨hcs, _⟩ | ⟨x, l, c, zs, hcs, _, hl, _, hlen, hx, hel, hwf⟩
  · simp only [List.cons.injEq, and_true] at hcs
    subst hcs
    exact ⟨none, 0, 0, [], rfl, rfl, Nat.zero_le _, (fun k hk => by simp at hk), (fun k v hk => by simp at hk)⟩
  · simp only [List.cons.injEq, and_true] at hcs
    subst hcs
    simp only [Prod.mk.injEq] at hx
    obtain ⟨rfl, _⟩ := hx
    simp only [if_true] at hlen
    have hll : (zs.take l).length = l := by rw [List.length_take]; omega
    simp only [Rows.uptoBulk] at hs
    refine ⟨some x, l, c, zs.take l, rfl, hll, ?_, ?_, ?_⟩
    · have h1 := bulk_length_le (lits .i64 (zs.take l) : List (DataW H))
      have h2 : (lits .i64 (zs.take l) : List (DataW H)).length = l := by simp [lits]; omega
      omega
    · intro z hz
      exact in64_of (hwf z (List.mem_of_mem_take hz))
    · intro k v hk
      have hk1 : k < l := by have := (List.getElem?_eq_some_iff.1 hk).1; omega
      rw [List.getElem?_take_of_lt hk1] at hk
      have h2 := hel k (by omega)
      obtain ⟨b, off, spot⟩ := x
      have hspot : spot = none := by have h0 := hel 0 (by omega); simpa [Addr.add] using World.cell?_spot h0
      subst hspot
      rw [Addr.add_mid] at h2
      refine ⟨b, off, rfl, World.block_lt_of_cell? W _ h2, ?_⟩
      rw [h2, List.getD_eq_getElem?_getD, hk]
      rfl
end Go.Proofs.Ytaonhgabnbmcfaa
