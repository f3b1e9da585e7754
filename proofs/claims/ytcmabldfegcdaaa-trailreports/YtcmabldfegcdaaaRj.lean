/- Marks that come in. -/
import Derived.Test.YtcmabldfegcdaaaRh
import Derived.Test.YtcmabldfegcdaaaMi
namespace Go.Proofs.Ytcmabldfegcdaaa
open Go.ChangeShapes Go.WideShapes Go.ChangeAt Go.RowKit Go.Deep
set_option linter.unusedVariables false
theorem bytes2 : Try.prog.bytesOf 2 = 8 := by kernel_rfl
set_option maxRecDepth 100000 in
theorem open_marks {H : Type} {enc : TypeId × Value → H} {W : World} {a : Option Addr} {len cap : Nat} {d : DataW H} {p : List MemPlace} (h : DataW.Trod enc Try.prog W 0 (fun _ => true) true 23 (.slice a len cap) d p) (hs : SizedD 23 d) :
    ∃ M : List Int, M.length = len ∧ MarksIn W a M ∧ (a = none → cap = 0) ∧ len ≤ 17592186044416 := by
  obtain ⟨fuel, hf⟩ := h
  rcases open_ints Try.underlying23 Try.underlying2 cells2 hf with ⟨hcs, _⟩ | ⟨x, l, c, zs, hcs, _, hl, _, hlen, hx, hel, _⟩
  · simp [Value.cells] at hcs
    obtain ⟨rfl, rfl, rfl⟩ := hcs
    exact ⟨[], rfl, fun k v hk => by simp at hk, fun _ => rfl, by simp⟩
  · simp [Value.cells] at hcs
    obtain ⟨rfl, rfl, rfl⟩ := hcs
    simp only [Prod.mk.injEq] at hx
    obtain ⟨rfl, _⟩ := hx
    simp only [if_true] at hlen
    obtain ⟨hb, hsz⟩ := hs.slice Try.underlying23
    rw [bytes2] at hb
    unfold reachBytes at hb
    have hll : (zs.take len).length = len := by rw [List.length_take]; omega
    have hb2 : len * 8 ≤ 140737488351232 := by
      have h1 : (lits .i64 (zs.take len) : List (DataW H)).length = len := by simp [lits]; omega
      rw [h1] at hb
      have : len * 8 ≤ (len + (lits .i64 (zs.drop len) : List (DataW H)).length) * 8 := Nat.mul_le_mul_right _ (by omega)
      omega
    refine ⟨zs.take len, hll, ?_, (fun h => by cases h), by omega⟩
    intro k v hk
    have hk1 : k < len := by have := (List.getElem?_eq_some_iff.1 hk).1; omega
    rw [List.getElem?_take_of_lt hk1] at hk
    have h2 := hel k (by omega)
    obtain ⟨b, off, spot⟩ := x
    have hspot : spot = none := by have h0 := hel 0 (by omega); simpa [Addr.add] using World.cell?_spot h0
    subst hspot
    refine ⟨b, off, rfl, ?_⟩
    rw [Addr.add_mid] at h2
    rw [h2, List.getD_eq_getElem?_getD, hk]
    rfl
end Go.Proofs.Ytcmabldfegcdaaa
