/- Full and rich nodes. -/
import Derived.Test.YtanfbfmpppfbhaaD
import Derived.BigQuiet
import Derived.Deep.QuietTactic
namespace Go.Proofs.Ytanfbfmpppfbhaa
open Go.RowKit
set_option maxRecDepth 100000
set_option linter.unusedVariables false
set_option linter.unusedSimpArgs false

theorem Fr.drewN (w : World) (n : Nat) (X : Nat → Prop) : Fr w (w.drewN n) X := ⟨rfl, rfl, rfl, Nat.le_refl _, fun _ _ _ => rfl⟩
theorem fullbeq (n o : Nat) (h : 1 ≤ o) : ((n : Int) == 2 * (o : Int) - 1) = decide (n = 2 * o - 1) := by
  by_cases h0 : n = 2 * o - 1
  · rw [decide_eq_true h0]; simp; omega
  · rw [decide_eq_false h0]; simp; omega
set_option maxHeartbeats 2000000 in
theorem full_any {cur : Int} {w : World} {d : Kd} {t : Int} {lv kv : Value} {L : List It} {ks : List Kd} (h : NodeP cur w d t lv kv L ks) (o : Nat) (h1 : 1 ≤ o) (h64 : o ≤ 64) (cnt : Int) : Calls Try.prog 57 #[.agg #[.int .i64 (o : Int), .int .i64 cnt], .pointer (some ⟨d.g, 0, none⟩)] w fun e w' => e = .returned (.bool (decide (L.length = 2 * o - 1))) ∧ Fr w w' (fun _ => False) := by
  obtain ⟨w1, hw1⟩ : ∃ w1, w1 = w.alloc (.cells #[.int .i64 (o : Int), .int .i64 cnt] 90) := ⟨_, rfl⟩
  have b1 : w1.heap[w.heap.size]? = some (.cells #[.int .i64 (o : Int), .int .i64 cnt] 90 (0, 0)) := by rw [hw1]; exact heap_alloc_new w _
  have y0 : w1.cell? ⟨w.heap.size, 0, none⟩ = some (.int .i64 (o : Int)) := (cell_of_row _ _ _ _ _ _ b1).trans rfl
  have f1 : Fr w w1 (fun _ => False) := by rw [hw1]; exact Fr.alloc w _ _
  obtain ⟨x0, x1, x2⟩ := (h.fr f1 (fun _ _ h => h)).cells
  obtain ⟨la, lc, ka, kc', rfl, rfl⟩ := h.shape
  generalize L.length = n at *
  obtain ⟨b, hb'⟩ : ∃ b, b = decide (n = 2 * o - 1) := ⟨_, rfl⟩
  have hbe : ((n : Int) == 2 * (o : Int) - 1) = b := by rw [hb']; exact fullbeq n o h1
  rw [← hb']
  have HF := hide f1
  have HW := hide hw1
  clear hb' h b1 f1 hw1
  go_enter Try.func57, Try.ntmps57
  go_wp2_with (rw [← HW.out]; clear HW)
  go_quiet (fail)
  go_wp2
  go_ret
  exact ⟨rfl, HF.out.two (Fr.drewN _ _ _)⟩
theorem richbeq (n o : Nat) : decide ((n : Int) ≥ (o : Int)) = decide (o ≤ n) := by
  by_cases h0 : o ≤ n
  · rw [decide_eq_true h0]; simp; omega
  · rw [decide_eq_false h0]; simp; omega
set_option maxHeartbeats 2000000 in
theorem rich_any {cur : Int} {w : World} {d : Kd} {t : Int} {lv kv : Value} {L : List It} {ks : List Kd} (h : NodeP cur w d t lv kv L ks) (o : Nat) (h1 : 1 ≤ o) (h64 : o ≤ 64) (cnt : Int) : Calls Try.prog 72 #[.agg #[.int .i64 (o : Int), .int .i64 cnt], .pointer (some ⟨d.g, 0, none⟩)] w fun e w' => e = .returned (.bool (decide (o ≤ L.length))) ∧ Fr w w' (fun _ => False) := by
  obtain ⟨w1, hw1⟩ : ∃ w1, w1 = w.alloc (.cells #[.int .i64 (o : Int), .int .i64 cnt] 90) := ⟨_, rfl⟩
  have b1 : w1.heap[w.heap.size]? = some (.cells #[.int .i64 (o : Int), .int .i64 cnt] 90 (0, 0)) := by rw [hw1]; exact heap_alloc_new w _
  have y0 : w1.cell? ⟨w.heap.size, 0, none⟩ = some (.int .i64 (o : Int)) := (cell_of_row _ _ _ _ _ _ b1).trans rfl
  have f1 : Fr w w1 (fun _ => False) := by rw [hw1]; exact Fr.alloc w _ _
  obtain ⟨x0, x1, x2⟩ := (h.fr f1 (fun _ _ h => h)).cells
  obtain ⟨la, lc, ka, kc', rfl, rfl⟩ := h.shape
  generalize L.length = n at *
  have HF := hide f1
  have HW := hide hw1
  clear h b1 f1 hw1
  go_enter Try.func72, Try.ntmps72
  go_wp2_with (rw [← HW.out]; clear HW)
  go_quiet (fail)
  go_wp2
  go_ret
  exact ⟨rfl, HF.out.two (Fr.drewN _ _ _)⟩
end Go.Proofs.Ytanfbfmpppfbhaa
