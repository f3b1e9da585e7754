/- Texts as lists; a range is no longer than the whole. -/
import Derived.Test.YtanfbfmpppfbhaaZa
namespace Go.Proofs.Ytanfbfmpppfbhaa
set_option linter.unusedVariables false
set_option linter.unusedSimpArgs false

theorem bl_inj {a b : ByteArray} (h : a.toList = b.toList) : a = b := by
  rw [ByteArray.toList_eq, ByteArray.toList_eq] at h
  cases a; cases b
  simp only at h
  rw [Array.toList_inj.1 h]
theorem rng_le (a b : ByteArray) (F : List It) : (rng a b F).length ≤ F.length := by unfold rng; exact List.length_filter_le _ _
end Go.Proofs.Ytanfbfmpppfbhaa
