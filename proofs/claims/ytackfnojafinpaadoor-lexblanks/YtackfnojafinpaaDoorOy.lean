/- What comes in: strings; numbers. -/
import Derived.Test.YtackfnojafinpaaDoorO
import Derived.Test.YtackfnojafinpaaDoorX
import Derived.SliceStrings
import Derived.ChangeSlices
namespace Go.Proofs.YtackfnojafinpaaDoor
open Go.ChangeShapes Go.WideShapes Go.ChangeAt Go.RowKit
set_option linter.unusedVariables false

theorem cells9 : Tryd.prog.cellsOf 9 = 1 := by kernel_rfl
theorem cells3 : Tryd.prog.cellsOf 3 = 1 := by kernel_rfl
theorem bytes9 : Tryd.prog.bytesOf 9 = 16 := by kernel_rfl
theorem bytes3 : Tryd.prog.bytesOf 3 = 8 := by kernel_rfl
theorem weightsAll_mem {H : Type} {e : TypeId} : ∀ {ds : List (DataW H)} {d : DataW H}, d ∈ ds → ∀ n ∈ d.weights Tryd.prog e, n ∈ DataW.weightsAll Tryd.prog e ds
  | [], _, h, _, _ => by cases h
  | x :: ds, d, hd, n, hn => by
    simp only [DataW.weightsAll, List.mem_append]
    rcases List.mem_cons.1 hd with rfl | h
    · exact Or.inl hn
    · exact Or.inr (weightsAll_mem h n hn)
theorem SizedD.slice {H : Type} {t e : TypeId} {elems spare : List (DataW H)} (h : SizedD t (.slice elems spare)) (hu : Tryd.prog.underlying t = some (.slice e)) : (elems.length + spare.length) * Tryd.prog.bytesOf e ≤ reachBytes ∧ ∀ d ∈ elems, SizedD e d := by
  unfold SizedD at h
  simp only [DataW.weights, hu, List.mem_cons, List.mem_append] at h
  exact ⟨h _ (.inl rfl), fun d hd n hn => h n (.inr (.inl (weightsAll_mem hd n hn)))⟩
set_option maxRecDepth 100000 in
theorem open_words {H : Type} {enc : TypeId × Value → H} {W : World} {v : Value} {base : Nat} {d : DataW H} {p : List MemPlace} (hok : Value.okWide Tryd.prog W .any base 38 v) (h : DataW.Trod enc Tryd.prog W 0 (fun _ => true) true 38 v d p) (hs : SizedD 38 d) :
    ∃ a c L, v = .slice a (List.length L) c ∧ Strs W a L ∧ L.length ≤ 8796093022208 ∧ ∀ x ∈ L, x.size ≤ 140737488351232 := by
  obtain ⟨a, len, cap, rfl⟩ := okWide_slice Tryd.underlying38 hok
  obtain ⟨fuel, hf⟩ := h
  rcases open_strings Tryd.underlying38 Tryd.underlying9 cells9 hf with ⟨hcs, _⟩ | ⟨x, l, c, ss, hcs, _, hl, _, hlen, hx, hel, _⟩
  · simp [Value.cells] at hcs
    obtain ⟨rfl, rfl, rfl⟩ := hcs
    exact ⟨none, 0, [], rfl, .inl rfl, by simp, by simp⟩
  · simp [Value.cells] at hcs
    obtain ⟨rfl, rfl, rfl⟩ := hcs
    simp only [Prod.mk.injEq] at hx
    obtain ⟨rfl, _⟩ := hx
    simp only [if_true] at hlen
    obtain ⟨hb, hsz⟩ := hs.slice Tryd.underlying38
    rw [bytes9] at hb
    unfold reachBytes at hb
    have hll : (ss.take len).length = len := by rw [List.length_take]; omega
    have hb2 : len * 16 ≤ 140737488351232 := by
      have h1 : (strs (ss.take len) : List (DataW H)).length = len := by simp [strs]; omega
      rw [h1] at hb
      have : len * 16 ≤ (len + (strs (ss.drop len) : List (DataW H)).length) * 16 := Nat.mul_le_mul_right _ (by omega)
      omega
    refine ⟨some x, cap, ss.take len, by rw [hll], ?_, by omega, fun y hy => ?_⟩
    · by_cases h0 : len = 0
      · left; subst h0; rfl
      · right
        obtain ⟨b, off, spot⟩ := x
        have hspot : spot = none := by
          have h2 := hel 0 (by omega)
          simpa [Addr.add] using World.cell?_spot h2
        subst hspot
        refine ⟨b, off, rfl, fun j y hy => ?_⟩
        have hj : j < len := by
          have := (List.getElem?_eq_some_iff.1 hy).1
          omega
        rw [List.getElem?_take, if_pos hj] at hy
        have h2 := hel j (by omega)
        rw [Addr.add_mid] at h2
        rw [h2, List.getD_eq_getElem?_getD, hy]
        rfl
    · have := hsz (.lit (.string y.data.toList)) (by
        unfold strs
        exact List.mem_map.2 ⟨y, hy, rfl⟩)
      exact this.string rfl
set_option maxRecDepth 100000 in
theorem open_nums {H : Type} {enc : TypeId × Value → H} {W : World} {v : Value} {base : Nat} {d : DataW H} {p : List MemPlace} (hok : Value.okWide Tryd.prog W .any base 39 v) (h : DataW.Trod enc Tryd.prog W 0 (fun _ => true) true 39 v d p) (hs : SizedD 39 d) :
    ∃ a c L, v = .slice a (List.length L) c ∧ Nums W a L ∧ L.length ≤ 140737488355328 := by
  obtain ⟨a, len, cap, rfl⟩ := okWide_slice Tryd.underlying39 hok
  obtain ⟨fuel, hf⟩ := h
  rcases open_ints Tryd.underlying39 Tryd.underlying3 cells3 hf with ⟨hcs, _⟩ | ⟨x, l, c, zs, hcs, _, hl, _, hlen, hx, hel, _⟩
  · simp [Value.cells] at hcs
    obtain ⟨rfl, rfl, rfl⟩ := hcs
    exact ⟨none, 0, [], rfl, .inl rfl, by simp⟩
  · simp [Value.cells] at hcs
    obtain ⟨rfl, rfl, rfl⟩ := hcs
    simp only [Prod.mk.injEq] at hx
    obtain ⟨rfl, _⟩ := hx
    simp only [if_true] at hlen
    obtain ⟨hb, hsz⟩ := hs.slice Tryd.underlying39
    rw [bytes3] at hb
    unfold reachBytes at hb
    have hll : (zs.take len).length = len := by rw [List.length_take]; omega
    have hb2 : len * 8 ≤ 140737488351232 := by
      have h1 : (lits .i64 (zs.take len) : List (DataW H)).length = len := by simp [lits]; omega
      rw [h1] at hb
      have : len * 8 ≤ (len + (lits .i64 (zs.drop len) : List (DataW H)).length) * 8 := Nat.mul_le_mul_right _ (by omega)
      omega
    refine ⟨some x, cap, zs.take len, by rw [hll], ?_, by omega⟩
    by_cases h0 : len = 0
    · left; subst h0; rfl
    · right
      obtain ⟨b, off, spot⟩ := x
      have hspot : spot = none := by
        have h2 := hel 0 (by omega)
        simpa [Addr.add] using World.cell?_spot h2
      subst hspot
      refine ⟨b, off, rfl, fun j y hy => ?_⟩
      have hj : j < len := by
        have := (List.getElem?_eq_some_iff.1 hy).1
        omega
      rw [List.getElem?_take, if_pos hj] at hy
      have h2 := hel j (by omega)
      rw [Addr.add_mid] at h2
      rw [h2, List.getD_eq_getElem?_getD, hy]
      rfl
end Go.Proofs.YtackfnojafinpaaDoor
