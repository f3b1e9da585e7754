/- Bytes in memory, and the disk as it lies there: plain notions and their laws; then the walk of 'full'. -/
import Derived.Test.YtpjelmlbikmddaaDa
import Derived.Deep.MidRow
import Derived.Laws.CopyOwn
namespace Go.Proofs.Ytpjelmlbikmddaa
open Go.RowKit

/-- A row of bytes that is one block of its own. -/
def bytesAt (w : World) (g : Nat) (l : List UInt8) : Prop := w.heap[g]? = some (.cells (enc l).toArray 5 (0, 0))

theorem bytesAt.cell {w : World} {g : Nat} {l : List UInt8} (h : bytesAt w g l) (j : Nat) (x : UInt8) (hx : l[j]? = some x) : w.cell? ⟨g, j, none⟩ = some (byt x) := by
  rw [cell_of_row w g j _ _ _ h]
  simp [enc_get, hx]

theorem info5 : Try.prog.info? 5 = some (Try.prog.info? 5).get! := by kernel_rfl

def part (k : Nat) (x : UInt8) : List UInt8 := List.replicate k x ++ List.replicate (256 - k) 0

theorem made256 (w : World) : (Instr.makeSlice 45 (.int .i64 256) (.int .i64 256)).run Try.prog w = .ok (.slice (some ⟨w.heap.size, 0, none⟩) 256 256) (w.alloc (.cells (enc (part 0 0)).toArray 5)) := by
  kernel_rfl

theorem length_part (k : Nat) (x : UInt8) (h : k ≤ 256) : (part k x).length = 256 := by
  simp [part]; omega

theorem part_zero (x : UInt8) : part 0 0 = part 0 x := rfl

theorem part_step (k : Nat) (x : UInt8) (h : k < 256) : (enc (part k x)).set k (byt x) = enc (part (k + 1) x) := by
  apply List.ext_getElem?
  intro i
  simp only [List.getElem?_set, enc_get, part, length_enc, List.length_append, List.length_replicate, List.getElem?_append, List.getElem?_replicate]
  by_cases h1 : i < k
  · have : ¬ k = i := by omega
    have h2 : i < k + 1 := by omega
    simp [this, h1, h2]
  · by_cases h2 : i = k
    · subst h2
      simp; omega
    · have : ¬ k = i := by omega
      have h3 : ¬ i < k + 1 := by omega
      simp only [this, h1, h3, if_false]
      by_cases h4 : i < 256
      · rw [if_pos (by omega), if_pos (by omega)]
      · rw [if_neg (by omega), if_neg (by omega)]

end Go.Proofs.Ytpjelmlbikmddaa
