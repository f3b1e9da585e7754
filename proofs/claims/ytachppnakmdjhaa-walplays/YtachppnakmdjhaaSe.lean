/- sector: the first bytes, as a sector's. -/
import Derived.Test.YtachppnakmdjhaaAw
import Derived.Test.YtachppnakmdjhaaDx
namespace Go.Proofs.Ytachppnakmdjhaa
open Go.RowKit
set_option linter.unusedVariables false

/-- Some bytes as a sector's. -/
def secB (l : List UInt8) : List UInt8 := over (zeros 256) 0 (l.take 256)
theorem length_secB (l : List UInt8) : (secB l).length = 256 := by
  rw [secB, length_over _ _ _ (by simp [length_zeros]; omega), length_zeros]
set_option maxRecDepth 100000 in
theorem sector_any (a : Option Addr) (n c : Nat) (l : List UInt8) (w : World) (hb : BI w a n l) :
    Calls Try.prog 20 #[.slice a n c] w fun e w' => e = .returned (.slice (some ⟨w.heap.size, 0, none⟩) 256 256) ∧ w'.heap[w.heap.size]? = some (.cells (enc (secB l)).toArray 5 (0, 0)) ∧ Fr w w' (fun _ => False) ∧ w'.heap.size = w.heap.size + 1 := by
  have hmk : ∀ V : World, (Instr.makeSlice 45 (.int .i64 256) (.int .i64 256)).run Try.prog V = .ok (.slice (some ⟨V.heap.size, 0, none⟩) 256 256) (V.alloc (.cells (enc (zeros 256)).toArray 5)) := fun V => run_madeN 256 (by omega) V
  have FA := Fr.alloc w (.cells (enc (zeros 256)).toArray 5) (fun _ => False)
  obtain ⟨W2, hcp, q1, q2, q3⟩ := run_copyB (w.alloc (.cells (enc (zeros 256)).toArray 5)) (some ⟨w.heap.size, 0, none⟩) 256 256 a n c w.heap.size 0 (zeros 256) l (heap_alloc_new w _) (fun _ => rfl) (hb.fr FA (fun _ _ _ _ h => h)) (by rw [length_zeros]; omega)
  have HQ1 := hide q1
  have HQ2 := hide ((FA.trans q2).mono (Y := fun _ => False) (by intro k hk h1; rcases h1 with h1 | h1; exact h1; omega))
  have HQ3 : Hid (W2.heap.size = w.heap.size + 1) := by show _ = _; rw [q3]; simp
  clear q1 q2 q3 FA hb
  go_enter Try.func20, Try.ntmps20
  go_wp2
  go_ret
  exact ⟨rfl, HQ1.out, HQ2.out, HQ3.out⟩
end Go.Proofs.Ytachppnakmdjhaa
