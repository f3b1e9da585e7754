/- Texts that come in. -/
import Derived.Test.YtiooacaplajidaaMt
import Derived.SliceStrings
namespace Go.Proofs.Ytiooacaplajidaa
open Go.ChangeShapes Go.WideShapes Go.ChangeAt Go.RowKit Go.Deep
set_option maxRecDepth 100000
set_option linter.unusedVariables false

theorem open_strs {H : Type} {enc : TypeId × Value → H} {W : World} {a : Option Addr} {len cap : Nat} {d : DataW H} {p : List MemPlace} (h : DataW.Trod enc Try.prog W 0 (fun _ => true) true 31 (.slice a len cap) d p) (hs : SizedD 31 d) :
    ∃ K : List ByteArray, K.length = len ∧ StrsIn (fun k => k < W.heap.size) W a K ∧ (a = none → cap = 0) ∧ len ≤ 8796093022208 := by
  obtain ⟨fuel, hf⟩ := h
  rcases open_strings Try.underlying31 Try.underlying9 cells9 hf with ⟨hcs, _⟩ | ⟨x, l, c, zs, hcs, _, hl, _, hlen, hx, hel, hwf⟩
  · simp [Value.cells] at hcs
    obtain ⟨rfl, rfl, rfl⟩ := hcs
    exact ⟨[], rfl, fun k v hk => by simp at hk, fun _ => rfl, by simp⟩
  · simp [Value.cells] at hcs
    obtain ⟨rfl, rfl, rfl⟩ := hcs
    simp only [Prod.mk.injEq] at hx
    obtain ⟨rfl, _⟩ := hx
    simp only [if_true] at hlen
    obtain ⟨hb, hsz⟩ := hs.slice Try.underlying31
    rw [bytes9] at hb
    unfold reachBytes at hb
    have hll : (zs.take len).length = len := by rw [List.length_take]; omega
    have hb2 : len * 16 ≤ 140737488351232 := by
      have h1 : (strs (zs.take len) : List (DataW H)).length = len := by simp [strs]; omega
      rw [h1] at hb
      have : len * 16 ≤ (len + (strs (zs.drop len) : List (DataW H)).length) * 16 := Nat.mul_le_mul_right _ (by omega)
      omega
    refine ⟨zs.take len, hll, ?_, (fun h => by cases h), by omega⟩
    intro k v hk
    have hk1 : k < len := by have := (List.getElem?_eq_some_iff.1 hk).1; omega
    rw [List.getElem?_take_of_lt hk1] at hk
    have h2 := hel k (by omega)
    obtain ⟨b, off, spot⟩ := x
    have hspot : spot = none := by have h0 := hel 0 (by omega); simpa [Addr.add] using World.cell?_spot h0
    subst hspot
    rw [Addr.add_mid] at h2
    refine ⟨b, off, rfl, World.block_lt_of_cell? W _ h2, ?_, ?_⟩
    · rw [h2, List.getD_eq_getElem?_getD, hk]
      rfl
    · exact hwf v (List.mem_of_getElem? hk)
end Go.Proofs.Ytiooacaplajidaa
