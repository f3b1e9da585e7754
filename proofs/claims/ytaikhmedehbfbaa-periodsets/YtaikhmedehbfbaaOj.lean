/- What comes in: a slice that lies nowhere has no room. -/
import Derived.Test.YtaikhmedehbfbaaOi
namespace Go.Proofs.Ytaikhmedehbfbaa
open Go.ChangeShapes Go.WideShapes Go.ChangeAt Go.RowKit Go.Deep
set_option linter.unusedVariables false

theorem open_cap {H : Type} {enc : TypeId × Value → H} {W : World} {a : Option Addr} {len cap : Nat} {d : DataW H} {p : List MemPlace} (h : DataW.Trod enc Try.prog W 0 (fun _ => true) true 24 (.slice a len cap) d p) : a = none → cap = 0 := by
  obtain ⟨fuel, hf⟩ := h
  rcases open_slice Try.underlying24 hf with ⟨hcs, _⟩ | ⟨x, l, c, m, n, D, Pl, hcs, _⟩
  · simp [Value.cells] at hcs
    intro _
    exact hcs.2.2
  · simp [Value.cells] at hcs
    intro h
    rw [hcs.1] at h
    cases h
end Go.Proofs.Ytaikhmedehbfbaa
