/- Same: two lists of values. -/
import Derived.Test.YtiicgfipmdgnhaaQCq
namespace Go.Proofs.Ytiicgfipmdgnhaa
open Go.RowKit
set_option maxRecDepth 100000
set_option linter.unusedVariables false
set_option linter.unusedSimpArgs false

set_option maxHeartbeats 4000000 in
theorem same_gen (a b : Option Addr) (ca cb : Nat) (A B : List Val) (w : World) (ha : Vals w a A) (hb : Vals w b B) (hA : A.length ≤ 140737488355328) (hB : B.length ≤ 140737488355328) :
    Calls Try.prog 10 #[.slice a A.length ca, .slice b B.length cb] w fun e w' => e = .returned (.bool (decide (A.length = B.length ∧ cmpL A B = 0))) ∧ Fr w w' (fun _ => False) := by
  have HC := hide (compare_any a b ca cb A B w ha hb hA hB)
  obtain ⟨n, hn⟩ : ∃ n, A.length = n := ⟨_, rfl⟩
  obtain ⟨m, hm⟩ : ∃ m, B.length = m := ⟨_, rfl⟩
  obtain ⟨k, hk⟩ : ∃ k, cmpL A B = k := ⟨_, rfl⟩
  rw [hn, hm, hk] at HC
  rw [hn, hm, hk]
  rw [hn] at hA
  rw [hm] at hB
  clear ha hb hn hm hk
  by_cases hnm : n = m
  · subst hnm
    by_cases hk0 : k = 0
    · subst hk0
      go_enter Try.func10, Try.ntmps10
      go_wp2_with (go_at_call 23; refine HC.out.mono ?_; rintro e w' ⟨rfl, F⟩; have HF := hide F; clear F)
      go_ret
      exact ⟨by simp, HF.out⟩
    · have hk1 : (k == 0) = false := by simpa using hk0
      go_enter Try.func10, Try.ntmps10
      go_wp2_with (go_at_call 23; refine HC.out.mono ?_; rintro e w' ⟨rfl, F⟩; have HF := hide F; clear F)
      go_ret
      exact ⟨by simp [hk0], HF.out⟩
  · have hnm1 : ((n : Int) == (m : Int)) = false := by simp; omega
    go_enter Try.func10, Try.ntmps10
    go_wp2
    go_ret
    exact ⟨by simp [hnm], Fr.refl _ _⟩
end Go.Proofs.Ytiicgfipmdgnhaa
