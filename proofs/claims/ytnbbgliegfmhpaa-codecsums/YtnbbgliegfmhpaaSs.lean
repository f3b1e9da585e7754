/- The sum of parts: the walk of CodecSums. -/
import Derived.Test.YtnbbgliegfmhpaaZ
namespace Go.Proofs.Ytnbbgliegfmhpaa
open Go.RowKit

theorem parts1 {w : World} {g : Nat} {a : Option Addr} {n c : Nat} {l : List UInt8} {t : TypeId} (h : w.heap[g]? = some (.cells #[.slice a n c] t (0, 0))) (hb : BI w a n l) (hn : n ≤ 140737488355328) : Parts w (some ⟨g, 0, none⟩) [l] := by
  refine .inr ⟨g, 0, rfl, fun j x hx => ?_⟩
  match j with
  | 0 => simp at hx; subst hx; exact ⟨a, n, c, by rw [cell_of_row _ _ _ _ _ _ h]; rfl, hb, hn⟩
  | j + 1 => simp at hx
theorem parts2 {w : World} {g : Nat} {a b : Option Addr} {n c m d : Nat} {l k : List UInt8} {t : TypeId} (h : w.heap[g]? = some (.cells #[.slice a n c, .slice b m d] t (0, 0))) (hb : BI w a n l) (hn : n ≤ 140737488355328) (hb2 : BI w b m k) (hm : m ≤ 140737488355328) : Parts w (some ⟨g, 0, none⟩) [l, k] := by
  refine .inr ⟨g, 0, rfl, fun j x hx => ?_⟩
  match j with
  | 0 => simp at hx; subst hx; exact ⟨a, n, c, by rw [cell_of_row _ _ _ _ _ _ h]; rfl, hb, hn⟩
  | 1 => simp at hx; subst hx; exact ⟨b, m, d, by rw [cell_of_row _ _ _ _ _ _ h]; rfl, hb2, hm⟩
  | j + 2 => simp at hx
theorem parts3 {w : World} {g : Nat} {a : Option Addr} {n c : Nat} {l : List UInt8} {t : TypeId} (h : w.heap[g]? = some (.cells #[.slice none 0 0, .slice a n c, .slice none 0 0] t (0, 0))) (hb : BI w a n l) (hn : n ≤ 140737488355328) : Parts w (some ⟨g, 0, none⟩) [[], l, []] := by
  refine .inr ⟨g, 0, rfl, fun j x hx => ?_⟩
  match j with
  | 0 => simp at hx; subst hx; exact ⟨none, 0, 0, by rw [cell_of_row _ _ _ _ _ _ h]; rfl, ⟨rfl, .inl rfl⟩, by omega⟩
  | 1 => simp at hx; subst hx; exact ⟨a, n, c, by rw [cell_of_row _ _ _ _ _ _ h]; rfl, hb, hn⟩
  | 2 => simp at hx; subst hx; exact ⟨none, 0, 0, by rw [cell_of_row _ _ _ _ _ _ h]; rfl, ⟨rfl, .inl rfl⟩, by omega⟩
  | j + 3 => simp at hx

set_option maxRecDepth 100000 in
set_option maxHeartbeats 4000000 in
theorem sums_walk (a : Option Addr) (n c : Nat) (l : List UInt8) (z : Int) (w : World) (hb : BI w a n l) (hnc : n ≤ c) (hlen : n ≤ 140737488351232) :
    Calls Try.prog 3 #[.slice a n c, .int .i64 z] w fun e w' => e = .returned (.bool true) ∧ Fr w w' (fun _ => False) := by
  have HB := hide hb
  have hll := hb.1
  clear hb
  go_enter Try.func3, Try.ntmps3
  go_wp2_with fail
  refine (awake_any w).mono ?_
  rintro e w1 ⟨rfl, F1⟩
  have HF1 := hide F1
  have hcv := run_string w1 a n c l (HB.out.fr F1 (fun _ _ _ _ h => h)).bin
  clear F1
  have HRS := hide (refSum_any l (by omega) w1)
  by_cases hz0 : z < 0
  · go_wp2_with (go_at_call 10; refine HRS.out.mono ?_; rintro e w2 ⟨rfl, F2⟩; have HF2 := hide F2; clear F2)
    obtain ⟨ah, hrh, hbh⟩ := run_head a n c 0 (by omega) hnc
    obtain ⟨at_, ct, hrt, hbt, hct⟩ := run_tail a n c 0 (by omega) hnc
    have HRH : Hid (∀ W, (Instr.slice 22 (.slice a n c) none (some (.int .i64 0)) none).run Try.prog W = .ok (.slice ah 0 c) W) := hrh
    have HRT : Hid (∀ W, (Instr.slice 22 (.slice a n c) (some (.int .i64 0)) none none).run Try.prog W = .ok (.slice at_ (n - 0) ct) W) := hrt
    have HBH := hide hbh
    have HBT := hide hbt
    clear hrh hbh hrt hbt
    have F02 := (HF1.out.trans HF2.out).mono (Y := fun _ => False) (by simp)
    have hS : ∀ V : World, Fr w2 V (fun _ => False) → BI V a n l := fun V hV => HB.out.fr ((F02.trans hV).mono (Y := fun _ => False) (by simp)) (fun _ _ _ _ h => h)
    have D0 := Fr.drew w2 (fun _ => False)
    have S0 := hS _ D0
    refine wp_region_K (fun _ => true) (fun V => BI V a n l) (by kernel_rfl) ?_
    refine wpAnyK_takeTo 0 (some 19) (.slice a n c) [] rfl rfl (by kernel_rfl) (by kernel_rfl) (by kernel_rfl) (by kernel_rfl) (fun _ _ _ h => h) S0 (Or.inl ⟨rfl, fun w1 hw1 => by go_simp⟩) ?_
    simp only [Act.put, List.setIfInBounds_toArray, List.set_cons_zero, List.set_cons_succ]
    refine wpAnyK_takeTo 3 (some 22) (.int .u32 (crc l)) [] rfl rfl (by kernel_rfl) (by kernel_rfl) (by kernel_rfl) (by kernel_rfl) (fun _ _ _ h => h) S0 (Or.inl ⟨rfl, fun w1 hw1 => by go_simp⟩) ?_
    simp only [Act.put, List.setIfInBounds_toArray, List.set_cons_zero, List.set_cons_succ]
    refine wpAnyK_one (i := 1) (by kernel_rfl) rfl rfl ?_
    go_simp
    have D1 := D0.trans1 (.cells #[.slice a n c] 22)
    have S1 := hS _ D1
    refine ⟨S1, ?_⟩
    refine wpAnyK_one (i := 2) (by kernel_rfl) rfl rfl ?_
    refine wp_call_to (some 21) rfl 11 #[.slice (some ⟨w2.heap.size, 0, none⟩) 1 1] (by go_simp) (sum_any _ 1 [l] _ (parts1 (heap_alloc_new w2.drew (.cells #[.slice a n c] 22)) S1 (by omega)) (by simp)) ?_
    rintro e w3 ⟨rfl, rfl⟩
    refine ⟨_, rfl, fun _ => S1, ?_⟩
    simp only [Act.put, List.setIfInBounds_toArray, List.set_cons_zero, List.set_cons_succ]
    rw [show [l].flatten = l by simp]
    refine wpAnyK_takeTo 4 (some 23) (.bool true) [] rfl rfl (by kernel_rfl) (by kernel_rfl) (by kernel_rfl) (by kernel_rfl) (fun _ _ _ h => h) S1 (Or.inl ⟨rfl, fun w1 hw1 => by go_simp⟩) ?_
    simp only [Act.put, List.setIfInBounds_toArray, List.set_cons_zero, List.set_cons_succ]
    refine wpAnyK_takeTo 5 (some 24) (.bool true) [] rfl rfl (by kernel_rfl) (by kernel_rfl) (by kernel_rfl) (by kernel_rfl) (fun _ _ _ h => h) S1 (Or.inl ⟨rfl, fun w1 hw1 => by go_simp⟩) ?_
    simp only [Act.put, List.setIfInBounds_toArray, List.set_cons_zero, List.set_cons_succ]
    refine wpAnyK_takeTo 6 (some 25) (.slice a n c) [] rfl rfl (by kernel_rfl) (by kernel_rfl) (by kernel_rfl) (by kernel_rfl) (fun _ _ _ h => h) S1 (Or.inl ⟨rfl, fun w1 hw1 => by go_simp⟩) ?_
    simp only [Act.put, List.setIfInBounds_toArray, List.set_cons_zero, List.set_cons_succ]
    refine wpAnyK_takeTo 7 (some 26) (.int .i64 0) [] rfl rfl (by kernel_rfl) (by kernel_rfl) (by kernel_rfl) (by kernel_rfl) (fun _ _ _ h => h) S1 (Or.inl ⟨rfl, fun w1 hw1 => by go_simp⟩) ?_
    simp only [Act.put, List.setIfInBounds_toArray, List.set_cons_zero, List.set_cons_succ]
    refine wpAnyK_takeTo 8 (some 27) (.slice ah 0 c) [] rfl rfl (by kernel_rfl) (by kernel_rfl) (by kernel_rfl) (by kernel_rfl) (fun _ _ _ h => h) S1 (Or.inl ⟨rfl, fun w1 hw1 => exec_to (.tmp 25) (.tmp 26) rfl rfl rfl HRH.out⟩) ?_
    simp only [Act.put, List.setIfInBounds_toArray, List.set_cons_zero, List.set_cons_succ]
    refine wpAnyK_takeTo 9 (some 28) (.slice a n c) [] rfl rfl (by kernel_rfl) (by kernel_rfl) (by kernel_rfl) (by kernel_rfl) (fun _ _ _ h => h) S1 (Or.inl ⟨rfl, fun w1 hw1 => by go_simp⟩) ?_
    simp only [Act.put, List.setIfInBounds_toArray, List.set_cons_zero, List.set_cons_succ]
    refine wpAnyK_takeTo 10 (some 29) (.int .i64 0) [] rfl rfl (by kernel_rfl) (by kernel_rfl) (by kernel_rfl) (by kernel_rfl) (fun _ _ _ h => h) S1 (Or.inl ⟨rfl, fun w1 hw1 => by go_simp⟩) ?_
    simp only [Act.put, List.setIfInBounds_toArray, List.set_cons_zero, List.set_cons_succ]
    refine wpAnyK_takeTo 11 (some 30) (.slice at_ (n - 0) ct) [] rfl rfl (by kernel_rfl) (by kernel_rfl) (by kernel_rfl) (by kernel_rfl) (fun _ _ _ h => h) S1 (Or.inl ⟨rfl, fun w1 hw1 => exec_from (.tmp 28) (.tmp 29) rfl rfl rfl HRT.out⟩) ?_
    simp only [Act.put, List.setIfInBounds_toArray, List.set_cons_zero, List.set_cons_succ]
    refine wpAnyK_takeTo 14 (some 33) (.int .u32 (crc l)) [] rfl rfl (by kernel_rfl) (by kernel_rfl) (by kernel_rfl) (by kernel_rfl) (fun _ _ _ h => h) S1 (Or.inl ⟨rfl, fun w1 hw1 => by go_simp⟩) ?_
    simp only [Act.put, List.setIfInBounds_toArray, List.set_cons_zero, List.set_cons_succ]
    refine wpAnyK_one (i := 12) (by kernel_rfl) rfl rfl ?_
    go_simp
    have D2 := D1.trans1 (.cells #[.slice ah 0 c, .slice at_ (n - 0) ct] 22)
    have S2 := hS _ D2
    refine ⟨S2, ?_⟩
    refine wpAnyK_one (i := 13) (by kernel_rfl) rfl rfl ?_
    refine wp_call_to (some 32) rfl 11 #[.slice (some ⟨w2.heap.size + 1, 0, none⟩) 2 2] (by go_simp) (sum_any _ 2 [l.take 0, l.drop 0] _ (parts2 (heap_alloc2_new w2.drew (.cells #[.slice a n c] 22) (.cells #[.slice ah 0 c, .slice at_ (n - 0) ct] 22)) (HBH.out _ _ S2) (by omega) (HBT.out _ _ S2) (by omega)) (by simp)) ?_
    rintro e w4 ⟨rfl, rfl⟩
    refine ⟨_, rfl, fun _ => S2, ?_⟩
    simp only [Act.put, List.setIfInBounds_toArray, List.set_cons_zero, List.set_cons_succ]
    rw [show [l.take 0, l.drop 0].flatten = l by simp]
    refine wpAnyK_takeTo 15 (some 34) (.bool true) [] rfl rfl (by kernel_rfl) (by kernel_rfl) (by kernel_rfl) (by kernel_rfl) (fun _ _ _ h => h) S2 (Or.inl ⟨rfl, fun w1 hw1 => by go_simp⟩) ?_
    simp only [Act.put, List.setIfInBounds_toArray, List.set_cons_zero, List.set_cons_succ]
    refine wpAnyK_takeTo 16 (some 35) (.bool true) [] rfl rfl (by kernel_rfl) (by kernel_rfl) (by kernel_rfl) (by kernel_rfl) (fun _ _ _ h => h) S2 (Or.inl ⟨rfl, fun w1 hw1 => by go_simp⟩) ?_
    simp only [Act.put, List.setIfInBounds_toArray, List.set_cons_zero, List.set_cons_succ]
    refine wpAnyK_takeTo 17 (some 36) (.bool true) [] rfl rfl (by kernel_rfl) (by kernel_rfl) (by kernel_rfl) (by kernel_rfl) (fun _ _ _ h => h) S2 (Or.inl ⟨rfl, fun w1 hw1 => by go_simp⟩) ?_
    simp only [Act.put, List.setIfInBounds_toArray, List.set_cons_zero, List.set_cons_succ]
    refine wpAnyK_takeTo 18 (some 37) (.slice a n c) [] rfl rfl (by kernel_rfl) (by kernel_rfl) (by kernel_rfl) (by kernel_rfl) (fun _ _ _ h => h) S2 (Or.inl ⟨rfl, fun w1 hw1 => by go_simp⟩) ?_
    simp only [Act.put, List.setIfInBounds_toArray, List.set_cons_zero, List.set_cons_succ]
    refine wpAnyK_takeTo 21 (some 40) (.int .u32 (crc l)) [] rfl rfl (by kernel_rfl) (by kernel_rfl) (by kernel_rfl) (by kernel_rfl) (fun _ _ _ h => h) S2 (Or.inl ⟨rfl, fun w1 hw1 => by go_simp⟩) ?_
    simp only [Act.put, List.setIfInBounds_toArray, List.set_cons_zero, List.set_cons_succ]
    refine wpAnyK_one (i := 19) (by kernel_rfl) rfl rfl ?_
    go_simp
    have D3 := D2.trans1 (.cells #[.slice none 0 0, .slice a n c, .slice none 0 0] 22)
    have S3 := hS _ D3
    refine ⟨S3, ?_⟩
    refine wpAnyK_one (i := 20) (by kernel_rfl) rfl rfl ?_
    refine wp_call_to (some 39) rfl 11 #[.slice (some ⟨w2.heap.size + 1 + 1, 0, none⟩) 3 3] (by go_simp) (sum_any _ 3 [[], l, []] _ (parts3 (by have := heap_alloc_new ((w2.drew.alloc (.cells #[.slice a n c] 22)).alloc (.cells #[.slice ah 0 c, .slice at_ (n - 0) ct] 22)) (.cells #[.slice none 0 0, .slice a n c, .slice none 0 0] 22); simp only [World.size_alloc] at this; exact this) S3 (by omega)) (by simp)) ?_
    rintro e w5 ⟨rfl, rfl⟩
    refine ⟨_, rfl, fun _ => S3, ?_⟩
    simp only [Act.put, List.setIfInBounds_toArray, List.set_cons_zero, List.set_cons_succ]
    rw [show [[], l, []].flatten = l by simp]
    refine wpAnyK_takeTo 22 (some 41) (.bool true) [] rfl rfl (by kernel_rfl) (by kernel_rfl) (by kernel_rfl) (by kernel_rfl) (fun _ _ _ h => h) S3 (Or.inl ⟨rfl, fun w1 hw1 => by go_simp⟩) ?_
    simp only [Act.put, List.setIfInBounds_toArray, List.set_cons_zero, List.set_cons_succ]
    refine wpAnyK_takeTo 23 (some 42) (.bool true) [] rfl rfl (by kernel_rfl) (by kernel_rfl) (by kernel_rfl) (by kernel_rfl) (fun _ _ _ h => h) S3 (Or.inl ⟨rfl, fun w1 hw1 => by go_simp⟩) ?_
    simp only [Act.put, List.setIfInBounds_toArray, List.set_cons_zero, List.set_cons_succ]
    refine wpAnyK_takeTo 24 (some 4) (.bool true) [] rfl rfl (by kernel_rfl) (by kernel_rfl) (by kernel_rfl) (by kernel_rfl) (fun _ _ _ h => h) S3 (Or.inl ⟨rfl, fun w1 hw1 => by go_simp⟩) ?_
    simp only [Act.put, List.setIfInBounds_toArray, List.set_cons_zero, List.set_cons_succ]
    refine wpAnyK_done (by kernel_rfl) ?_ _
    go_wp2
    go_ret
    exact ⟨rfl, (F02.trans D3).mono (by simp)⟩
  · by_cases hzn : (n : Int) < z
    · go_wp2_with (go_at_call 10; refine HRS.out.mono ?_; rintro e w2 ⟨rfl, F2⟩; have HF2 := hide F2; clear F2)
      obtain ⟨ah, hrh, hbh⟩ := run_head a n c 0 (by omega) hnc
      obtain ⟨at_, ct, hrt, hbt, hct⟩ := run_tail a n c 0 (by omega) hnc
      have HRH : Hid (∀ W, (Instr.slice 22 (.slice a n c) none (some (.int .i64 0)) none).run Try.prog W = .ok (.slice ah 0 c) W) := hrh
      have HRT : Hid (∀ W, (Instr.slice 22 (.slice a n c) (some (.int .i64 0)) none none).run Try.prog W = .ok (.slice at_ (n - 0) ct) W) := hrt
      have HBH := hide hbh
      have HBT := hide hbt
      clear hrh hbh hrt hbt
      have F02 := (HF1.out.trans HF2.out).mono (Y := fun _ => False) (by simp)
      have hS : ∀ V : World, Fr w2 V (fun _ => False) → BI V a n l := fun V hV => HB.out.fr ((F02.trans hV).mono (Y := fun _ => False) (by simp)) (fun _ _ _ _ h => h)
      have D0 := Fr.drew w2 (fun _ => False)
      have S0 := hS _ D0
      refine wp_region_K (fun _ => true) (fun V => BI V a n l) (by kernel_rfl) ?_
      refine wpAnyK_takeTo 0 (some 19) (.slice a n c) [] rfl rfl (by kernel_rfl) (by kernel_rfl) (by kernel_rfl) (by kernel_rfl) (fun _ _ _ h => h) S0 (Or.inl ⟨rfl, fun w1 hw1 => by go_simp⟩) ?_
      simp only [Act.put, List.setIfInBounds_toArray, List.set_cons_zero, List.set_cons_succ]
      refine wpAnyK_takeTo 3 (some 22) (.int .u32 (crc l)) [] rfl rfl (by kernel_rfl) (by kernel_rfl) (by kernel_rfl) (by kernel_rfl) (fun _ _ _ h => h) S0 (Or.inl ⟨rfl, fun w1 hw1 => by go_simp⟩) ?_
      simp only [Act.put, List.setIfInBounds_toArray, List.set_cons_zero, List.set_cons_succ]
      refine wpAnyK_one (i := 1) (by kernel_rfl) rfl rfl ?_
      go_simp
      have D1 := D0.trans1 (.cells #[.slice a n c] 22)
      have S1 := hS _ D1
      refine ⟨S1, ?_⟩
      refine wpAnyK_one (i := 2) (by kernel_rfl) rfl rfl ?_
      refine wp_call_to (some 21) rfl 11 #[.slice (some ⟨w2.heap.size, 0, none⟩) 1 1] (by go_simp) (sum_any _ 1 [l] _ (parts1 (heap_alloc_new w2.drew (.cells #[.slice a n c] 22)) S1 (by omega)) (by simp)) ?_
      rintro e w3 ⟨rfl, rfl⟩
      refine ⟨_, rfl, fun _ => S1, ?_⟩
      simp only [Act.put, List.setIfInBounds_toArray, List.set_cons_zero, List.set_cons_succ]
      rw [show [l].flatten = l by simp]
      refine wpAnyK_takeTo 4 (some 23) (.bool true) [] rfl rfl (by kernel_rfl) (by kernel_rfl) (by kernel_rfl) (by kernel_rfl) (fun _ _ _ h => h) S1 (Or.inl ⟨rfl, fun w1 hw1 => by go_simp⟩) ?_
      simp only [Act.put, List.setIfInBounds_toArray, List.set_cons_zero, List.set_cons_succ]
      refine wpAnyK_takeTo 5 (some 24) (.bool true) [] rfl rfl (by kernel_rfl) (by kernel_rfl) (by kernel_rfl) (by kernel_rfl) (fun _ _ _ h => h) S1 (Or.inl ⟨rfl, fun w1 hw1 => by go_simp⟩) ?_
      simp only [Act.put, List.setIfInBounds_toArray, List.set_cons_zero, List.set_cons_succ]
      refine wpAnyK_takeTo 6 (some 25) (.slice a n c) [] rfl rfl (by kernel_rfl) (by kernel_rfl) (by kernel_rfl) (by kernel_rfl) (fun _ _ _ h => h) S1 (Or.inl ⟨rfl, fun w1 hw1 => by go_simp⟩) ?_
      simp only [Act.put, List.setIfInBounds_toArray, List.set_cons_zero, List.set_cons_succ]
      refine wpAnyK_takeTo 7 (some 26) (.int .i64 0) [] rfl rfl (by kernel_rfl) (by kernel_rfl) (by kernel_rfl) (by kernel_rfl) (fun _ _ _ h => h) S1 (Or.inl ⟨rfl, fun w1 hw1 => by go_simp⟩) ?_
      simp only [Act.put, List.setIfInBounds_toArray, List.set_cons_zero, List.set_cons_succ]
      refine wpAnyK_takeTo 8 (some 27) (.slice ah 0 c) [] rfl rfl (by kernel_rfl) (by kernel_rfl) (by kernel_rfl) (by kernel_rfl) (fun _ _ _ h => h) S1 (Or.inl ⟨rfl, fun w1 hw1 => exec_to (.tmp 25) (.tmp 26) rfl rfl rfl HRH.out⟩) ?_
      simp only [Act.put, List.setIfInBounds_toArray, List.set_cons_zero, List.set_cons_succ]
      refine wpAnyK_takeTo 9 (some 28) (.slice a n c) [] rfl rfl (by kernel_rfl) (by kernel_rfl) (by kernel_rfl) (by kernel_rfl) (fun _ _ _ h => h) S1 (Or.inl ⟨rfl, fun w1 hw1 => by go_simp⟩) ?_
      simp only [Act.put, List.setIfInBounds_toArray, List.set_cons_zero, List.set_cons_succ]
      refine wpAnyK_takeTo 10 (some 29) (.int .i64 0) [] rfl rfl (by kernel_rfl) (by kernel_rfl) (by kernel_rfl) (by kernel_rfl) (fun _ _ _ h => h) S1 (Or.inl ⟨rfl, fun w1 hw1 => by go_simp⟩) ?_
      simp only [Act.put, List.setIfInBounds_toArray, List.set_cons_zero, List.set_cons_succ]
      refine wpAnyK_takeTo 11 (some 30) (.slice at_ (n - 0) ct) [] rfl rfl (by kernel_rfl) (by kernel_rfl) (by kernel_rfl) (by kernel_rfl) (fun _ _ _ h => h) S1 (Or.inl ⟨rfl, fun w1 hw1 => exec_from (.tmp 28) (.tmp 29) rfl rfl rfl HRT.out⟩) ?_
      simp only [Act.put, List.setIfInBounds_toArray, List.set_cons_zero, List.set_cons_succ]
      refine wpAnyK_takeTo 14 (some 33) (.int .u32 (crc l)) [] rfl rfl (by kernel_rfl) (by kernel_rfl) (by kernel_rfl) (by kernel_rfl) (fun _ _ _ h => h) S1 (Or.inl ⟨rfl, fun w1 hw1 => by go_simp⟩) ?_
      simp only [Act.put, List.setIfInBounds_toArray, List.set_cons_zero, List.set_cons_succ]
      refine wpAnyK_one (i := 12) (by kernel_rfl) rfl rfl ?_
      go_simp
      have D2 := D1.trans1 (.cells #[.slice ah 0 c, .slice at_ (n - 0) ct] 22)
      have S2 := hS _ D2
      refine ⟨S2, ?_⟩
      refine wpAnyK_one (i := 13) (by kernel_rfl) rfl rfl ?_
      refine wp_call_to (some 32) rfl 11 #[.slice (some ⟨w2.heap.size + 1, 0, none⟩) 2 2] (by go_simp) (sum_any _ 2 [l.take 0, l.drop 0] _ (parts2 (heap_alloc2_new w2.drew (.cells #[.slice a n c] 22) (.cells #[.slice ah 0 c, .slice at_ (n - 0) ct] 22)) (HBH.out _ _ S2) (by omega) (HBT.out _ _ S2) (by omega)) (by simp)) ?_
      rintro e w4 ⟨rfl, rfl⟩
      refine ⟨_, rfl, fun _ => S2, ?_⟩
      simp only [Act.put, List.setIfInBounds_toArray, List.set_cons_zero, List.set_cons_succ]
      rw [show [l.take 0, l.drop 0].flatten = l by simp]
      refine wpAnyK_takeTo 15 (some 34) (.bool true) [] rfl rfl (by kernel_rfl) (by kernel_rfl) (by kernel_rfl) (by kernel_rfl) (fun _ _ _ h => h) S2 (Or.inl ⟨rfl, fun w1 hw1 => by go_simp⟩) ?_
      simp only [Act.put, List.setIfInBounds_toArray, List.set_cons_zero, List.set_cons_succ]
      refine wpAnyK_takeTo 16 (some 35) (.bool true) [] rfl rfl (by kernel_rfl) (by kernel_rfl) (by kernel_rfl) (by kernel_rfl) (fun _ _ _ h => h) S2 (Or.inl ⟨rfl, fun w1 hw1 => by go_simp⟩) ?_
      simp only [Act.put, List.setIfInBounds_toArray, List.set_cons_zero, List.set_cons_succ]
      refine wpAnyK_takeTo 17 (some 36) (.bool true) [] rfl rfl (by kernel_rfl) (by kernel_rfl) (by kernel_rfl) (by kernel_rfl) (fun _ _ _ h => h) S2 (Or.inl ⟨rfl, fun w1 hw1 => by go_simp⟩) ?_
      simp only [Act.put, List.setIfInBounds_toArray, List.set_cons_zero, List.set_cons_succ]
      refine wpAnyK_takeTo 18 (some 37) (.slice a n c) [] rfl rfl (by kernel_rfl) (by kernel_rfl) (by kernel_rfl) (by kernel_rfl) (fun _ _ _ h => h) S2 (Or.inl ⟨rfl, fun w1 hw1 => by go_simp⟩) ?_
      simp only [Act.put, List.setIfInBounds_toArray, List.set_cons_zero, List.set_cons_succ]
      refine wpAnyK_takeTo 21 (some 40) (.int .u32 (crc l)) [] rfl rfl (by kernel_rfl) (by kernel_rfl) (by kernel_rfl) (by kernel_rfl) (fun _ _ _ h => h) S2 (Or.inl ⟨rfl, fun w1 hw1 => by go_simp⟩) ?_
      simp only [Act.put, List.setIfInBounds_toArray, List.set_cons_zero, List.set_cons_succ]
      refine wpAnyK_one (i := 19) (by kernel_rfl) rfl rfl ?_
      go_simp
      have D3 := D2.trans1 (.cells #[.slice none 0 0, .slice a n c, .slice none 0 0] 22)
      have S3 := hS _ D3
      refine ⟨S3, ?_⟩
      refine wpAnyK_one (i := 20) (by kernel_rfl) rfl rfl ?_
      refine wp_call_to (some 39) rfl 11 #[.slice (some ⟨w2.heap.size + 1 + 1, 0, none⟩) 3 3] (by go_simp) (sum_any _ 3 [[], l, []] _ (parts3 (by have := heap_alloc_new ((w2.drew.alloc (.cells #[.slice a n c] 22)).alloc (.cells #[.slice ah 0 c, .slice at_ (n - 0) ct] 22)) (.cells #[.slice none 0 0, .slice a n c, .slice none 0 0] 22); simp only [World.size_alloc] at this; exact this) S3 (by omega)) (by simp)) ?_
      rintro e w5 ⟨rfl, rfl⟩
      refine ⟨_, rfl, fun _ => S3, ?_⟩
      simp only [Act.put, List.setIfInBounds_toArray, List.set_cons_zero, List.set_cons_succ]
      rw [show [[], l, []].flatten = l by simp]
      refine wpAnyK_takeTo 22 (some 41) (.bool true) [] rfl rfl (by kernel_rfl) (by kernel_rfl) (by kernel_rfl) (by kernel_rfl) (fun _ _ _ h => h) S3 (Or.inl ⟨rfl, fun w1 hw1 => by go_simp⟩) ?_
      simp only [Act.put, List.setIfInBounds_toArray, List.set_cons_zero, List.set_cons_succ]
      refine wpAnyK_takeTo 23 (some 42) (.bool true) [] rfl rfl (by kernel_rfl) (by kernel_rfl) (by kernel_rfl) (by kernel_rfl) (fun _ _ _ h => h) S3 (Or.inl ⟨rfl, fun w1 hw1 => by go_simp⟩) ?_
      simp only [Act.put, List.setIfInBounds_toArray, List.set_cons_zero, List.set_cons_succ]
      refine wpAnyK_takeTo 24 (some 4) (.bool true) [] rfl rfl (by kernel_rfl) (by kernel_rfl) (by kernel_rfl) (by kernel_rfl) (fun _ _ _ h => h) S3 (Or.inl ⟨rfl, fun w1 hw1 => by go_simp⟩) ?_
      simp only [Act.put, List.setIfInBounds_toArray, List.set_cons_zero, List.set_cons_succ]
      refine wpAnyK_done (by kernel_rfl) ?_ _
      go_wp2
      go_ret
      exact ⟨rfl, (F02.trans D3).mono (by simp)⟩
    · obtain ⟨k, rfl⟩ : ∃ k : Nat, z = (k : Int) := ⟨z.toNat, by omega⟩
      have hkn : k ≤ n := by omega
      go_wp2_with (go_at_call 10; refine HRS.out.mono ?_; rintro e w2 ⟨rfl, F2⟩; have HF2 := hide F2; clear F2)
      obtain ⟨ah, hrh, hbh⟩ := run_head a n c k (by omega) hnc
      obtain ⟨at_, ct, hrt, hbt, hct⟩ := run_tail a n c k (by omega) hnc
      have HRH : Hid (∀ W, (Instr.slice 22 (.slice a n c) none (some (.int .i64 (k : Int))) none).run Try.prog W = .ok (.slice ah k c) W) := hrh
      have HRT : Hid (∀ W, (Instr.slice 22 (.slice a n c) (some (.int .i64 (k : Int))) none none).run Try.prog W = .ok (.slice at_ (n - k) ct) W) := hrt
      have HBH := hide hbh
      have HBT := hide hbt
      clear hrh hbh hrt hbt
      have F02 := (HF1.out.trans HF2.out).mono (Y := fun _ => False) (by simp)
      have hS : ∀ V : World, Fr w2 V (fun _ => False) → BI V a n l := fun V hV => HB.out.fr ((F02.trans hV).mono (Y := fun _ => False) (by simp)) (fun _ _ _ _ h => h)
      have D0 := Fr.drew w2 (fun _ => False)
      have S0 := hS _ D0
      refine wp_region_K (fun _ => true) (fun V => BI V a n l) (by kernel_rfl) ?_
      refine wpAnyK_takeTo 0 (some 19) (.slice a n c) [] rfl rfl (by kernel_rfl) (by kernel_rfl) (by kernel_rfl) (by kernel_rfl) (fun _ _ _ h => h) S0 (Or.inl ⟨rfl, fun w1 hw1 => by go_simp⟩) ?_
      simp only [Act.put, List.setIfInBounds_toArray, List.set_cons_zero, List.set_cons_succ]
      refine wpAnyK_takeTo 3 (some 22) (.int .u32 (crc l)) [] rfl rfl (by kernel_rfl) (by kernel_rfl) (by kernel_rfl) (by kernel_rfl) (fun _ _ _ h => h) S0 (Or.inl ⟨rfl, fun w1 hw1 => by go_simp⟩) ?_
      simp only [Act.put, List.setIfInBounds_toArray, List.set_cons_zero, List.set_cons_succ]
      refine wpAnyK_one (i := 1) (by kernel_rfl) rfl rfl ?_
      go_simp
      have D1 := D0.trans1 (.cells #[.slice a n c] 22)
      have S1 := hS _ D1
      refine ⟨S1, ?_⟩
      refine wpAnyK_one (i := 2) (by kernel_rfl) rfl rfl ?_
      refine wp_call_to (some 21) rfl 11 #[.slice (some ⟨w2.heap.size, 0, none⟩) 1 1] (by go_simp) (sum_any _ 1 [l] _ (parts1 (heap_alloc_new w2.drew (.cells #[.slice a n c] 22)) S1 (by omega)) (by simp)) ?_
      rintro e w3 ⟨rfl, rfl⟩
      refine ⟨_, rfl, fun _ => S1, ?_⟩
      simp only [Act.put, List.setIfInBounds_toArray, List.set_cons_zero, List.set_cons_succ]
      rw [show [l].flatten = l by simp]
      refine wpAnyK_takeTo 4 (some 23) (.bool true) [] rfl rfl (by kernel_rfl) (by kernel_rfl) (by kernel_rfl) (by kernel_rfl) (fun _ _ _ h => h) S1 (Or.inl ⟨rfl, fun w1 hw1 => by go_simp⟩) ?_
      simp only [Act.put, List.setIfInBounds_toArray, List.set_cons_zero, List.set_cons_succ]
      refine wpAnyK_takeTo 5 (some 24) (.bool true) [] rfl rfl (by kernel_rfl) (by kernel_rfl) (by kernel_rfl) (by kernel_rfl) (fun _ _ _ h => h) S1 (Or.inl ⟨rfl, fun w1 hw1 => by go_simp⟩) ?_
      simp only [Act.put, List.setIfInBounds_toArray, List.set_cons_zero, List.set_cons_succ]
      refine wpAnyK_takeTo 6 (some 25) (.slice a n c) [] rfl rfl (by kernel_rfl) (by kernel_rfl) (by kernel_rfl) (by kernel_rfl) (fun _ _ _ h => h) S1 (Or.inl ⟨rfl, fun w1 hw1 => by go_simp⟩) ?_
      simp only [Act.put, List.setIfInBounds_toArray, List.set_cons_zero, List.set_cons_succ]
      refine wpAnyK_takeTo 7 (some 26) (.int .i64 (k : Int)) [] rfl rfl (by kernel_rfl) (by kernel_rfl) (by kernel_rfl) (by kernel_rfl) (fun _ _ _ h => h) S1 (Or.inl ⟨rfl, fun w1 hw1 => by go_simp⟩) ?_
      simp only [Act.put, List.setIfInBounds_toArray, List.set_cons_zero, List.set_cons_succ]
      refine wpAnyK_takeTo 8 (some 27) (.slice ah k c) [] rfl rfl (by kernel_rfl) (by kernel_rfl) (by kernel_rfl) (by kernel_rfl) (fun _ _ _ h => h) S1 (Or.inl ⟨rfl, fun w1 hw1 => exec_to (.tmp 25) (.tmp 26) rfl rfl rfl HRH.out⟩) ?_
      simp only [Act.put, List.setIfInBounds_toArray, List.set_cons_zero, List.set_cons_succ]
      refine wpAnyK_takeTo 9 (some 28) (.slice a n c) [] rfl rfl (by kernel_rfl) (by kernel_rfl) (by kernel_rfl) (by kernel_rfl) (fun _ _ _ h => h) S1 (Or.inl ⟨rfl, fun w1 hw1 => by go_simp⟩) ?_
      simp only [Act.put, List.setIfInBounds_toArray, List.set_cons_zero, List.set_cons_succ]
      refine wpAnyK_takeTo 10 (some 29) (.int .i64 (k : Int)) [] rfl rfl (by kernel_rfl) (by kernel_rfl) (by kernel_rfl) (by kernel_rfl) (fun _ _ _ h => h) S1 (Or.inl ⟨rfl, fun w1 hw1 => by go_simp⟩) ?_
      simp only [Act.put, List.setIfInBounds_toArray, List.set_cons_zero, List.set_cons_succ]
      refine wpAnyK_takeTo 11 (some 30) (.slice at_ (n - k) ct) [] rfl rfl (by kernel_rfl) (by kernel_rfl) (by kernel_rfl) (by kernel_rfl) (fun _ _ _ h => h) S1 (Or.inl ⟨rfl, fun w1 hw1 => exec_from (.tmp 28) (.tmp 29) rfl rfl rfl HRT.out⟩) ?_
      simp only [Act.put, List.setIfInBounds_toArray, List.set_cons_zero, List.set_cons_succ]
      refine wpAnyK_takeTo 14 (some 33) (.int .u32 (crc l)) [] rfl rfl (by kernel_rfl) (by kernel_rfl) (by kernel_rfl) (by kernel_rfl) (fun _ _ _ h => h) S1 (Or.inl ⟨rfl, fun w1 hw1 => by go_simp⟩) ?_
      simp only [Act.put, List.setIfInBounds_toArray, List.set_cons_zero, List.set_cons_succ]
      refine wpAnyK_one (i := 12) (by kernel_rfl) rfl rfl ?_
      go_simp
      have D2 := D1.trans1 (.cells #[.slice ah k c, .slice at_ (n - k) ct] 22)
      have S2 := hS _ D2
      refine ⟨S2, ?_⟩
      refine wpAnyK_one (i := 13) (by kernel_rfl) rfl rfl ?_
      refine wp_call_to (some 32) rfl 11 #[.slice (some ⟨w2.heap.size + 1, 0, none⟩) 2 2] (by go_simp) (sum_any _ 2 [l.take k, l.drop k] _ (parts2 (heap_alloc2_new w2.drew (.cells #[.slice a n c] 22) (.cells #[.slice ah k c, .slice at_ (n - k) ct] 22)) (HBH.out _ _ S2) (by omega) (HBT.out _ _ S2) (by omega)) (by simp)) ?_
      rintro e w4 ⟨rfl, rfl⟩
      refine ⟨_, rfl, fun _ => S2, ?_⟩
      simp only [Act.put, List.setIfInBounds_toArray, List.set_cons_zero, List.set_cons_succ]
      rw [show [l.take k, l.drop k].flatten = l by simp]
      refine wpAnyK_takeTo 15 (some 34) (.bool true) [] rfl rfl (by kernel_rfl) (by kernel_rfl) (by kernel_rfl) (by kernel_rfl) (fun _ _ _ h => h) S2 (Or.inl ⟨rfl, fun w1 hw1 => by go_simp⟩) ?_
      simp only [Act.put, List.setIfInBounds_toArray, List.set_cons_zero, List.set_cons_succ]
      refine wpAnyK_takeTo 16 (some 35) (.bool true) [] rfl rfl (by kernel_rfl) (by kernel_rfl) (by kernel_rfl) (by kernel_rfl) (fun _ _ _ h => h) S2 (Or.inl ⟨rfl, fun w1 hw1 => by go_simp⟩) ?_
      simp only [Act.put, List.setIfInBounds_toArray, List.set_cons_zero, List.set_cons_succ]
      refine wpAnyK_takeTo 17 (some 36) (.bool true) [] rfl rfl (by kernel_rfl) (by kernel_rfl) (by kernel_rfl) (by kernel_rfl) (fun _ _ _ h => h) S2 (Or.inl ⟨rfl, fun w1 hw1 => by go_simp⟩) ?_
      simp only [Act.put, List.setIfInBounds_toArray, List.set_cons_zero, List.set_cons_succ]
      refine wpAnyK_takeTo 18 (some 37) (.slice a n c) [] rfl rfl (by kernel_rfl) (by kernel_rfl) (by kernel_rfl) (by kernel_rfl) (fun _ _ _ h => h) S2 (Or.inl ⟨rfl, fun w1 hw1 => by go_simp⟩) ?_
      simp only [Act.put, List.setIfInBounds_toArray, List.set_cons_zero, List.set_cons_succ]
      refine wpAnyK_takeTo 21 (some 40) (.int .u32 (crc l)) [] rfl rfl (by kernel_rfl) (by kernel_rfl) (by kernel_rfl) (by kernel_rfl) (fun _ _ _ h => h) S2 (Or.inl ⟨rfl, fun w1 hw1 => by go_simp⟩) ?_
      simp only [Act.put, List.setIfInBounds_toArray, List.set_cons_zero, List.set_cons_succ]
      refine wpAnyK_one (i := 19) (by kernel_rfl) rfl rfl ?_
      go_simp
      have D3 := D2.trans1 (.cells #[.slice none 0 0, .slice a n c, .slice none 0 0] 22)
      have S3 := hS _ D3
      refine ⟨S3, ?_⟩
      refine wpAnyK_one (i := 20) (by kernel_rfl) rfl rfl ?_
      refine wp_call_to (some 39) rfl 11 #[.slice (some ⟨w2.heap.size + 1 + 1, 0, none⟩) 3 3] (by go_simp) (sum_any _ 3 [[], l, []] _ (parts3 (by have := heap_alloc_new ((w2.drew.alloc (.cells #[.slice a n c] 22)).alloc (.cells #[.slice ah k c, .slice at_ (n - k) ct] 22)) (.cells #[.slice none 0 0, .slice a n c, .slice none 0 0] 22); simp only [World.size_alloc] at this; exact this) S3 (by omega)) (by simp)) ?_
      rintro e w5 ⟨rfl, rfl⟩
      refine ⟨_, rfl, fun _ => S3, ?_⟩
      simp only [Act.put, List.setIfInBounds_toArray, List.set_cons_zero, List.set_cons_succ]
      rw [show [[], l, []].flatten = l by simp]
      refine wpAnyK_takeTo 22 (some 41) (.bool true) [] rfl rfl (by kernel_rfl) (by kernel_rfl) (by kernel_rfl) (by kernel_rfl) (fun _ _ _ h => h) S3 (Or.inl ⟨rfl, fun w1 hw1 => by go_simp⟩) ?_
      simp only [Act.put, List.setIfInBounds_toArray, List.set_cons_zero, List.set_cons_succ]
      refine wpAnyK_takeTo 23 (some 42) (.bool true) [] rfl rfl (by kernel_rfl) (by kernel_rfl) (by kernel_rfl) (by kernel_rfl) (fun _ _ _ h => h) S3 (Or.inl ⟨rfl, fun w1 hw1 => by go_simp⟩) ?_
      simp only [Act.put, List.setIfInBounds_toArray, List.set_cons_zero, List.set_cons_succ]
      refine wpAnyK_takeTo 24 (some 4) (.bool true) [] rfl rfl (by kernel_rfl) (by kernel_rfl) (by kernel_rfl) (by kernel_rfl) (fun _ _ _ h => h) S3 (Or.inl ⟨rfl, fun w1 hw1 => by go_simp⟩) ?_
      simp only [Act.put, List.setIfInBounds_toArray, List.set_cons_zero, List.set_cons_succ]
      refine wpAnyK_done (by kernel_rfl) ?_ _
      go_wp2
      go_ret
      exact ⟨rfl, (F02.trans D3).mono (by simp)⟩
end Go.Proofs.Ytnbbgliegfmhpaa
