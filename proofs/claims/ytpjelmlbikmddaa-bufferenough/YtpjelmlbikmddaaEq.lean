/- slices.Equal of bytes; a sector of a log is written. -/
import Derived.Test.YtpjelmlbikmddaaTk
namespace Go.Proofs.Ytpjelmlbikmddaa
open Go.RowKit
set_option maxRecDepth 100000
set_option linter.unusedVariables false

set_option maxRecDepth 100000 in
set_option maxHeartbeats 2000000 in
theorem equal_any (a1 : Option Addr) (c1 : Nat) (a2 : Option Addr) (c2 n : Nat) (l1 l2 : List UInt8) (w : World) (h1 : BI w a1 n l1) (h2 : BI w a2 n l2) (hn : n ≤ 140737488355328) :
    Calls Try.prog 57 #[.slice a1 n c1, .slice a2 n c2] w fun e w' => e = .returned (.bool (decide (l1 = l2))) ∧ Fr w w' (fun _ => False) := by
  have H1 := hide h1
  have H2 := hide h2
  have hl1 := h1.1
  have hl2 := h2.1
  have HL := hide (show l1.length = n ∧ l2.length = n from ⟨hl1, hl2⟩)
  clear h1 h2 hl1 hl2
  go_enter Try.func57, Try.ntmps57
  go_wp2_with fail
  go_loopw [13] (fun i wr => ∃ k : Nat, k ≤ n ∧ i = .int .i64 k ∧ l1.take k = l2.take k ∧ Fr w wr (fun _ => False)) (fun i _ => n - (intOf i).toNat)
  case atStart => exact ⟨0, by omega, rfl, rfl, Fr.refl _ _⟩
  case round =>
    rename World => W
    obtain ⟨k, hk, rfl, htk, hf⟩ := hrel
    have HT := hide htk
    have HF := hide hf
    clear htk hf
    by_cases hlt : k < n
    · have FD : Fr w W.drew (fun _ => False) := (HF.out.trans (Fr.drew W (fun _ => False))).mono (by simp)
      obtain ⟨g1, off1, u1, rfl, hu1, d1⟩ := H1.out.get (FD.mono (fun _ _ h => h.elim)) k hlt
      obtain ⟨g2, off2, u2, rfl, hu2, d2⟩ := H2.out.get (FD.mono (fun _ _ h => h.elim)) k hlt
      have hS := And.intro d1 d2
      have HFD := hide FD
      have HU := hide (And.intro hu1 hu2)
      have hb1 : u1.toNat < 256 := u1.toNat_lt
      have hb2 : u2.toNat < 256 := u2.toNat_lt
      clear FD d1 d2 hu1 hu2
      by_cases hu : u1 = u2
      · subst hu
        go_wp2_with fail
        refine wp_region_K (fun _ => true) (fun V => V.cell? ⟨g1, off1 + k, none⟩ = some (.int .u8 (u1.toNat : Int)) ∧ V.cell? ⟨g2, off2 + k, none⟩ = some (.int .u8 (u1.toNat : Int))) (by kernel_rfl) ?_
        refine wpAnyK_takeTo 0 (some 16) (.slice (some ⟨g1, off1, none⟩) n c1) [] rfl rfl (by kernel_rfl) (by kernel_rfl) (by kernel_rfl) (by kernel_rfl) (fun _ _ _ h => h) hS (Or.inl ⟨rfl, fun w1 hw1 => by go_simp⟩) ?_
        simp only [Act.put, List.setIfInBounds_toArray, List.set_cons_zero, List.set_cons_succ]
        refine wpAnyK_takeTo 1 (some 17) (.int .i64 (k : Int)) [] rfl rfl (by kernel_rfl) (by kernel_rfl) (by kernel_rfl) (by kernel_rfl) (fun _ _ _ h => h) hS (Or.inl ⟨rfl, fun w1 hw1 => by go_simp⟩) ?_
        simp only [Act.put, List.setIfInBounds_toArray, List.set_cons_zero, List.set_cons_succ]
        refine wpAnyK_takeTo 2 (some 18) (.pointer (some ⟨g1, off1 + k, none⟩)) [] rfl rfl (by kernel_rfl) (by kernel_rfl) (by kernel_rfl) (by kernel_rfl) (fun _ _ _ h => h) hS (Or.inl ⟨rfl, fun w1 hw1 => by go_simp; first | done | (intro h; omega)⟩) ?_
        simp only [Act.put, List.setIfInBounds_toArray, List.set_cons_zero, List.set_cons_succ]
        refine wpAnyK_takeTo 3 (some 19) (.int .u8 (u1.toNat : Int)) [] rfl rfl (by kernel_rfl) (by kernel_rfl) (by kernel_rfl) (by kernel_rfl) (fun _ _ _ h => h) hS (Or.inl ⟨rfl, fun w1 hw1 => by obtain ⟨x0, x1⟩ := hw1; go_simp⟩) ?_
        simp only [Act.put, List.setIfInBounds_toArray, List.set_cons_zero, List.set_cons_succ]
        refine wpAnyK_takeTo 4 (some 20) (.slice (some ⟨g2, off2, none⟩) n c2) [] rfl rfl (by kernel_rfl) (by kernel_rfl) (by kernel_rfl) (by kernel_rfl) (fun _ _ _ h => h) hS (Or.inl ⟨rfl, fun w1 hw1 => by go_simp⟩) ?_
        simp only [Act.put, List.setIfInBounds_toArray, List.set_cons_zero, List.set_cons_succ]
        refine wpAnyK_takeTo 5 (some 21) (.int .i64 (k : Int)) [] rfl rfl (by kernel_rfl) (by kernel_rfl) (by kernel_rfl) (by kernel_rfl) (fun _ _ _ h => h) hS (Or.inl ⟨rfl, fun w1 hw1 => by go_simp⟩) ?_
        simp only [Act.put, List.setIfInBounds_toArray, List.set_cons_zero, List.set_cons_succ]
        refine wpAnyK_takeTo 6 (some 22) (.pointer (some ⟨g2, off2 + k, none⟩)) [] rfl rfl (by kernel_rfl) (by kernel_rfl) (by kernel_rfl) (by kernel_rfl) (fun _ _ _ h => h) hS (Or.inl ⟨rfl, fun w1 hw1 => by go_simp; first | done | (intro h; omega)⟩) ?_
        simp only [Act.put, List.setIfInBounds_toArray, List.set_cons_zero, List.set_cons_succ]
        refine wpAnyK_takeTo 7 (some 23) (.int .u8 (u1.toNat : Int)) [] rfl rfl (by kernel_rfl) (by kernel_rfl) (by kernel_rfl) (by kernel_rfl) (fun _ _ _ h => h) hS (Or.inl ⟨rfl, fun w1 hw1 => by obtain ⟨x0, x1⟩ := hw1; go_simp⟩) ?_
        simp only [Act.put, List.setIfInBounds_toArray, List.set_cons_zero, List.set_cons_succ]
        refine wpAnyK_takeTo 8 (some 24) (.bool false) [] rfl rfl (by kernel_rfl) (by kernel_rfl) (by kernel_rfl) (by kernel_rfl) (fun _ _ _ h => h) hS (Or.inl ⟨rfl, fun w1 hw1 => by go_simp⟩) ?_
        simp only [Act.put, List.setIfInBounds_toArray, List.set_cons_zero, List.set_cons_succ]
        refine wpAnyK_done (by kernel_rfl) ?_ _
        clear hS
        go_wp2
        go_roundw
        case rel => exact ⟨k + 1, by omega, by go_num, by rw [List.take_add_one, List.take_add_one, HU.out.1, HU.out.2, HT.out], HFD.out⟩
        case measure => simp [intOf]; omega
      · have hne : ¬ (u1.toNat : Int) = (u2.toNat : Int) := fun h => hu (UInt8.toNat_inj.1 (by omega))
        have HN := hide (show decide (l1 = l2) = false from decide_eq_false (fun h => hu (by have h3 := HU.out.1; rw [h, HU.out.2] at h3; exact (Option.some.inj h3).symm)))
        have hne2 : ((u1.toNat : Int) != (u2.toNat : Int)) = true := by simpa using hne
        go_wp2_with fail
        refine wp_region_K (fun _ => true) (fun V => V.cell? ⟨g1, off1 + k, none⟩ = some (.int .u8 (u1.toNat : Int)) ∧ V.cell? ⟨g2, off2 + k, none⟩ = some (.int .u8 (u2.toNat : Int))) (by kernel_rfl) ?_
        refine wpAnyK_takeTo 0 (some 16) (.slice (some ⟨g1, off1, none⟩) n c1) [] rfl rfl (by kernel_rfl) (by kernel_rfl) (by kernel_rfl) (by kernel_rfl) (fun _ _ _ h => h) hS (Or.inl ⟨rfl, fun w1 hw1 => by go_simp⟩) ?_
        simp only [Act.put, List.setIfInBounds_toArray, List.set_cons_zero, List.set_cons_succ]
        refine wpAnyK_takeTo 1 (some 17) (.int .i64 (k : Int)) [] rfl rfl (by kernel_rfl) (by kernel_rfl) (by kernel_rfl) (by kernel_rfl) (fun _ _ _ h => h) hS (Or.inl ⟨rfl, fun w1 hw1 => by go_simp⟩) ?_
        simp only [Act.put, List.setIfInBounds_toArray, List.set_cons_zero, List.set_cons_succ]
        refine wpAnyK_takeTo 2 (some 18) (.pointer (some ⟨g1, off1 + k, none⟩)) [] rfl rfl (by kernel_rfl) (by kernel_rfl) (by kernel_rfl) (by kernel_rfl) (fun _ _ _ h => h) hS (Or.inl ⟨rfl, fun w1 hw1 => by go_simp; first | done | (intro h; omega)⟩) ?_
        simp only [Act.put, List.setIfInBounds_toArray, List.set_cons_zero, List.set_cons_succ]
        refine wpAnyK_takeTo 3 (some 19) (.int .u8 (u1.toNat : Int)) [] rfl rfl (by kernel_rfl) (by kernel_rfl) (by kernel_rfl) (by kernel_rfl) (fun _ _ _ h => h) hS (Or.inl ⟨rfl, fun w1 hw1 => by obtain ⟨x0, x1⟩ := hw1; go_simp⟩) ?_
        simp only [Act.put, List.setIfInBounds_toArray, List.set_cons_zero, List.set_cons_succ]
        refine wpAnyK_takeTo 4 (some 20) (.slice (some ⟨g2, off2, none⟩) n c2) [] rfl rfl (by kernel_rfl) (by kernel_rfl) (by kernel_rfl) (by kernel_rfl) (fun _ _ _ h => h) hS (Or.inl ⟨rfl, fun w1 hw1 => by go_simp⟩) ?_
        simp only [Act.put, List.setIfInBounds_toArray, List.set_cons_zero, List.set_cons_succ]
        refine wpAnyK_takeTo 5 (some 21) (.int .i64 (k : Int)) [] rfl rfl (by kernel_rfl) (by kernel_rfl) (by kernel_rfl) (by kernel_rfl) (fun _ _ _ h => h) hS (Or.inl ⟨rfl, fun w1 hw1 => by go_simp⟩) ?_
        simp only [Act.put, List.setIfInBounds_toArray, List.set_cons_zero, List.set_cons_succ]
        refine wpAnyK_takeTo 6 (some 22) (.pointer (some ⟨g2, off2 + k, none⟩)) [] rfl rfl (by kernel_rfl) (by kernel_rfl) (by kernel_rfl) (by kernel_rfl) (fun _ _ _ h => h) hS (Or.inl ⟨rfl, fun w1 hw1 => by go_simp; first | done | (intro h; omega)⟩) ?_
        simp only [Act.put, List.setIfInBounds_toArray, List.set_cons_zero, List.set_cons_succ]
        refine wpAnyK_takeTo 7 (some 23) (.int .u8 (u2.toNat : Int)) [] rfl rfl (by kernel_rfl) (by kernel_rfl) (by kernel_rfl) (by kernel_rfl) (fun _ _ _ h => h) hS (Or.inl ⟨rfl, fun w1 hw1 => by obtain ⟨x0, x1⟩ := hw1; go_simp⟩) ?_
        simp only [Act.put, List.setIfInBounds_toArray, List.set_cons_zero, List.set_cons_succ]
        refine wpAnyK_takeTo 8 (some 24) (.bool true) [] rfl rfl (by kernel_rfl) (by kernel_rfl) (by kernel_rfl) (by kernel_rfl) (fun _ _ _ h => h) hS (Or.inl ⟨rfl, fun w1 hw1 => by go_simp; first | done | exact hne | exact hne2⟩) ?_
        simp only [Act.put, List.setIfInBounds_toArray, List.set_cons_zero, List.set_cons_succ]
        refine wpAnyK_done (by kernel_rfl) ?_ _
        clear hS
        go_wp2
        go_ret
        exact ⟨by rw [HN.out]; rfl, HFD.out⟩
    · obtain rfl : k = n := by omega
      have HN := hide (show decide (l1 = l2) = true from decide_eq_true (by have h := HT.out; have h4 := HL.out; rwa [List.take_of_length_le (by omega), List.take_of_length_le (by omega)] at h))
      go_wp2
      go_ret
      exact ⟨by rw [HN.out]; rfl, HF.out⟩
end Go.Proofs.Ytpjelmlbikmddaa
