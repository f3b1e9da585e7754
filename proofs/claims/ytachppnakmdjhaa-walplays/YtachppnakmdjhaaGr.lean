/- slices.Grow of nothing. -/
import Derived.Test.YtachppnakmdjhaaOn
import Derived.Lib.AppendZeros
namespace Go.Proofs.Ytachppnakmdjhaa
open Go.RowKit
set_option linter.unusedVariables false

theorem run_none0 (W : World) : (Instr.slice 45 (.slice none 0 0) none (some (.int .i64 ((0 : Nat) : Int))) none).run Try.prog W = .ok (.slice none 0 0) W := by
  rw [run_slice_h (P := Try.prog) W 45 none 0 0 ht22 .i64 ((0 : Nat) : Int) (by omega) (by omega), size_elem22]
  simp only [Result.andThen_ok, sliced, Int.toNat_natCast, Nat.sub_zero]
  rfl
theorem run_some0 (g n c : Nat) (W : World) : (Instr.slice 45 (.slice (some ⟨g, 0, none⟩) n c) none (some (.int .i64 ((0 : Nat) : Int))) none).run Try.prog W = .ok (.slice (some ⟨g, 0, none⟩) 0 c) W := by
  rw [run_slice_h (P := Try.prog) W 45 (some ⟨g, 0, none⟩) n c ht22 .i64 ((0 : Nat) : Int) (by omega) (by omega), size_elem22]
  simp only [Result.andThen_ok, sliced, Int.toNat_natCast, Nat.sub_zero]
  split <;> rfl

set_option maxRecDepth 100000 in
set_option maxHeartbeats 1000000 in
theorem grow_nil (n : Nat) (hn : n ≤ 1048576) (w : World) :
    Calls Try.prog 61 #[.slice none 0 0, .int .i64 (n : Int)] w fun x w' => ∃ v, x = .returned v ∧ OwnB w' v [] ∧ Fr w w' (fun _ => False) ∧ ∀ q, v.ownBlock = some q → w.heap.size ≤ q := by
  by_cases h0 : n = 0
  · subst h0
    go_enter Try.func61, Try.ntmps61
    go_wp2
    go_ret
    exact ⟨_, rfl, OwnB.nil _, Fr.refl _ _, by simp [Value.ownBlock]⟩
  · obtain ⟨i, hi, hz, hs5, hby⟩ := full5
    have hr := Lib.run_append_nil_zeros (P := Try.prog) w 45 3 45 5 i _ .i64 .i64 Try.underlying45 Try.underlying3 hi hz n (by omega) (by rw [hs5]; omega) (by omega) (by rw [hby]; omega)
    have HR := hide hr
    have hn1 : (0 : Int) < (n : Int) := by omega
    clear hr hi hz hs5 hby
    go_enter Try.func61, Try.ntmps61
    go_wp2_with (first | refine wpList_val rfl 20 rfl (.slice none 0 0) _ (exec_to (.tmp 17) (.tmp 19) rfl rfl rfl run_none0) ?_ | refine Lib.wpList_append_run _ rfl (.tmp 20) (.tmp 21) 45 3 rfl _ _ rfl rfl _ _ HR.out ?_ | refine wpList_val rfl 25 rfl (.slice (some ⟨w.heap.size, 0, none⟩) 0 _) _ (exec_to (.tmp 22) (.tmp 24) rfl rfl rfl (run_some0 _ _ _)) ?_)
    have hge := grownCap_ge w n 0 5
    have hle := grownCap_le_maxLen w n 0 5 (by unfold maxLen; omega)
    go_ret
    refine ⟨_, rfl, World.ownsRow_made w.drew _ (grownCap w n 0 5) (Nat.zero_le _) hle ?_, ((Fr.drew w (fun _ => False)).trans (Fr.alloc w.drew _ (fun _ => False))).mono (by simp), fun q hq => ?_⟩
    · rw [Array.size_append, size_zeroCells, size_zeroCells, show #[Value.int IntKind.u8 0].size = 1 from rfl]
      omega
    · have := Option.some.inj hq
      simp only [] at this
      omega
end Go.Proofs.Ytachppnakmdjhaa
