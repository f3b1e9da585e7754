/- Turned about: the walk of PeriodTurns. -/
import Derived.Test.YtbdpdobaacbkkaaDoorRl
import Derived.Test.YtbdpdobaacbkkaaDoorAw
namespace Go.Proofs.YtbdpdobaacbkkaaDoor
open Go.RowKit
set_option linter.unusedVariables false

theorem relE_turn (a b : Per) : relE a b = relE b a := by
  unfold relE relOk
  rw [Bool.and_comm]
theorem relV_wrong (a b : Per) (h : ¬ relE a b = 0) : relV a b = 0 := by
  unfold relE at h
  unfold relV
  split at h
  · exact absurd rfl h
  · rename_i h1; rw [if_neg h1]
theorem relOk_of (a b : Per) (h : relE a b = 0) : relOk a b = true := by
  unfold relE at h
  split at h
  · assumption
  · omega
theorem rel_right {a b : Per} (h : relOk a b = true) : Right a ∧ Right b := by
  simp only [relOk, Bool.and_eq_true, rightB_iff] at h
  exact h
theorem relV_turn (a b : Per) (h : relE a b = 0) : relV a b + relV b a = 14 := by
  have h1 := relOk_of a b h
  have h2 := relOk_of b a (by rw [relE_turn]; exact h)
  obtain ⟨ra, rb⟩ := rel_right h1
  unfold Right at ra rb
  unfold relV
  rw [if_pos h1, if_pos h2]
  unfold relN relIn
  (repeat' split) <;> omega
theorem relV_before (a b c : Per) (h : relE a b = 0) (h2 : relE b c = 0) (hx : relV a b = 1) (hz : relV b c = 1) : relV a c = 1 := by
  have h1 := relOk_of a b h
  have h3 := relOk_of b c h2
  obtain ⟨ra, rb⟩ := rel_right h1
  obtain ⟨_, rc⟩ := rel_right h3
  have hac : relOk a c = true := by simp only [relOk, Bool.and_eq_true, rightB_iff]; exact ⟨ra, rc⟩
  unfold relV at *
  rw [if_pos h1] at hx
  rw [if_pos h3] at hz
  rw [if_pos hac]
  unfold Right at rb
  have e1 : a.hi < b.lo := by
    by_cases h : a.hi < b.lo
    · exact h
    · exfalso; unfold relN relIn at hx; (repeat' split at hx) <;> omega
  have e2 : b.hi < c.lo := by
    by_cases h : b.hi < c.lo
    · exact h
    · exfalso; unfold relN relIn at hz; (repeat' split at hz) <;> omega
  unfold relN
  rw [if_pos (by omega)]
theorem relV_equal (a b : Per) (h : relE a b = 0) (hx : relV a b = 7) : a = b := by
  have h1 := relOk_of a b h
  unfold relV at hx
  rw [if_pos h1] at hx
  have e : a.lo = b.lo ∧ a.hi = b.hi := by
    by_cases h : a.lo = b.lo ∧ a.hi = b.hi
    · exact h
    · exfalso; unfold relN relIn at hx; (repeat' split at hx) <;> omega
  cases a; cases b; simp at e; simp [e]
end Go.Proofs.YtbdpdobaacbkkaaDoor
