/- Values stay. -/
import Derived.Test.YtnbbgliegfmhpabN
namespace Go.Proofs.Ytnbbgliegfmhpab
theorem Vals.keep {w w' : World} {a : Option Addr} {L : List Val} (h : Vals w a L) (hf : Fr w w' (fun _ => False)) : Vals w' a L := by
  rcases h with h | ⟨g, off, rfl, hc⟩
  · exact .inl h
  · refine .inr ⟨g, off, rfl, fun j v hv => ?_⟩
    obtain ⟨h1, h2, h3⟩ := hc j v hv
    have hb : g < w.heap.size := World.block_lt_of_cell? w _ h1
    have e : ∀ o, w'.cell? ⟨g, o, none⟩ = w.cell? ⟨g, o, none⟩ := fun o => World.cell?_of_block (w := w) (hf.block g hb id)
    exact ⟨by rw [e]; exact h1, by rw [e]; exact h2, by rw [e]; exact h3⟩
end Go.Proofs.Ytnbbgliegfmhpab
