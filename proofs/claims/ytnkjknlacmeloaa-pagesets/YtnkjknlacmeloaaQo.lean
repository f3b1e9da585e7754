/- What comes in: a pair of numbers. -/
import Derived.Test.YtnkjknlacmeloaaQ
import Derived.WideKeyPair
namespace Go.Proofs.Ytnkjknlacmeloaa
open Go.ChangeShapes Go.WideShapes Go.ChangeAt Go.RowKit Go.Deep
set_option linter.unusedVariables false

set_option maxRecDepth 100000 in
theorem open_pair {H : Type} {enc : TypeId × Value → H} {W : World} {base : Nat} {v : Value} {d : DataW H} {p : List MemPlace} (hok : Value.okWide Try.prog W .any base 54 v) (h : DataW.Trod enc Try.prog W 0 (fun _ => true) true 54 v d p) :
    ∃ x y, v = .agg #[.int .i64 x, .int .i64 y] ∧ ((-9223372036854775808 ≤ x ∧ x ≤ 9223372036854775807) ∧ -9223372036854775808 ≤ y ∧ y ≤ 9223372036854775807) := by
  obtain ⟨c0, c1, rfl⟩ := Go.WideMaps.okWide_pair (e := 3) ⟨Try.underlying54, by kernel_rfl, by kernel_rfl, by kernel_rfl⟩ hok
  obtain ⟨fuel, hf⟩ := h
  obtain ⟨xs, n, _, _, _, hxl, hel⟩ := DataW.trod_array Try.underlying54 hf
  match xs, hxl with
  | [y0, y1], _ =>
    have f0 := hel 0 (by omega)
    have f1 := hel 1 (by omega)
    rw [cells3] at f0 f1
    change DataW.trod enc Try.prog W 0 (fun _ => true) true n 3 [c0] = some y0 at f0
    change DataW.trod enc Try.prog W 0 (fun _ => true) true n 3 [c1] = some y1 at f1
    obtain ⟨x, e0, _, w0⟩ := DataW.trod_int Try.underlying3 f0
    obtain ⟨y, e1, _, w1⟩ := DataW.trod_int Try.underlying3 f1
    simp only [List.cons.injEq, and_true] at e0 e1
    subst e0 e1
    have r0 := bounds_i64 w0
    have r1 := bounds_i64 w1
    exact ⟨x, y, rfl, ⟨r0.1, by omega⟩, r1.1, by omega⟩
end Go.Proofs.Ytnkjknlacmeloaa
