/- slices.Equal of rows of values. -/
import Derived.Test.YtdeopneififnnaaQf
namespace Go.Proofs.Ytdeopneififnnaa
open Go.RowKit
set_option maxRecDepth 100000
set_option linter.unusedVariables false
set_option linter.unusedSimpArgs false

set_option maxHeartbeats 8000000 in
theorem equal_any {P Q : Nat → Prop} {w : World} (a a2 : Option Addr) (n n2 c c2 : Nat) (L M : List Vl) (h1 : ValsIn P w a L) (h2 : ValsIn Q w a2 M) (hn : L.length = n) (hn2 : M.length = n2) (hb : n ≤ 8388608) : Calls Try.prog 47 #[.slice a n c, .slice a2 n2 c2] w fun e w' => ((L = M ∧ e = .returned (.bool true)) ∨ (L ≠ M ∧ e = .returned (.bool false))) ∧ Fr w w' (fun _ => False) := by
  have H1 := hide h1
  have H2 := hide h2
  have HN := hide hn
  have HN2 := hide hn2
  clear h1 h2 hn hn2
  by_cases hnn : n = n2
  case neg =>
    have hq : ¬ ((n : Int) = (n2 : Int)) := by omega
    have hqb : ((n : Int) == (n2 : Int)) = false := by simpa using hq
    have hqn : ((n : Int) != (n2 : Int)) = true := by simpa using hq
    have HNE : Hid (L ≠ M) := hide (fun e => hnn (by rw [← HN.out, ← HN2.out, e]))
    clear hnn
    go_enter Try.func47, Try.ntmps47
    go_wp2
    go_ret
    exact ⟨.inr ⟨HNE.out, rfl⟩, Fr.refl _ _⟩
  subst hnn
  go_enter Try.func47, Try.ntmps47
  go_wp2_with fail
  go_loopw [13] (fun ix wr => ∃ j : Nat, j ≤ n ∧ ix = .int .i64 (j : Int) ∧ (∀ k, k < j → L[k]? = M[k]?) ∧ Fr w wr (fun _ => False)) (fun ix _ => n - (intOf ix).toNat)
  case atStart => exact ⟨0, Nat.zero_le _, rfl, fun k hk => by omega, Fr.refl _ _⟩
  case round =>
    rename World => W
    obtain ⟨j, hj, rfl, hall, hf⟩ := hrel
    have HF := hide hf
    have HAL := hide hall
    clear hf hall
    rcases Nat.lt_or_ge j n with hlt | hge
    · obtain ⟨x, hx⟩ : ∃ x, L[j]? = some x := ⟨_, List.getElem?_eq_getElem (by rw [HN.out]; exact hlt)⟩
      obtain ⟨y, hy⟩ : ∃ y, M[j]? = some y := ⟨_, List.getElem?_eq_getElem (by rw [HN2.out]; exact hlt)⟩
      obtain ⟨g, off, ha, _, e0, e1, e2⟩ := (H1.out.fr (HF.out.two (Fr.drew W _)) (fun _ _ h => h)) j x hx
      obtain ⟨g2, off2, ha2, _, d0, d1, d2⟩ := (H2.out.fr (HF.out.two (Fr.drew W _)) (fun _ _ h => h)) j y hy
      rw [ha, ha2]
      have HD := hide (HF.out.two (Fr.drew W _))
      obtain ⟨xk, xi, xt⟩ := x
      obtain ⟨yk, yi, yt⟩ := y
      have HX := hide hx
      have HY := hide hy
      dsimp only at e0 e1 e2 d0 d1 d2
      clear hx hy ha ha2 HF
      by_cases k1 : xk = yk
      · subst k1
        by_cases k2 : xi = yi
        · subst k2
          by_cases k3 : xt = yt
          · subst k3
            go_wp2_with fail
            refine wp_region_K (fun _ => true) (fun U : World => U = W.drew) (by kernel_rfl) ?_
            have hS : (fun U : World => U = W.drew) W.drew := rfl
            refine wpAnyK_takeTo 0 (some 16) (.slice (some ⟨g, off, none⟩) n c) [2, 3, 8] rfl rfl (by kernel_rfl) (by kernel_rfl) (by kernel_rfl) (by kernel_rfl) (fun _ _ _ h => h) hS (Or.inl ⟨rfl, fun w1 hw1 => by have hw1 : w1 = W.drew := hw1; subst hw1; go_simp⟩) ?_
            simp only [Act.put, List.setIfInBounds_toArray, List.set_cons_zero, List.set_cons_succ]
            refine wpAnyK_takeTo 1 (some 17) (.int .i64 (j : Int)) [2, 3, 8] rfl rfl (by kernel_rfl) (by kernel_rfl) (by kernel_rfl) (by kernel_rfl) (fun _ _ _ h => h) hS (Or.inl ⟨rfl, fun w1 hw1 => by have hw1 : w1 = W.drew := hw1; subst hw1; go_simp⟩) ?_
            simp only [Act.put, List.setIfInBounds_toArray, List.set_cons_zero, List.set_cons_succ]
            refine wpAnyK_takeTo 2 (some 18) (.pointer (some ⟨g, off + j * 3, none⟩)) [3, 8] rfl rfl (by kernel_rfl) (by kernel_rfl) (by kernel_rfl) (by kernel_rfl) (fun _ _ _ h => h) hS (Or.inl ⟨rfl, fun w1 hw1 => by have hw1 : w1 = W.drew := hw1; subst hw1; go_simp⟩) ?_
            simp only [Act.put, List.setIfInBounds_toArray, List.set_cons_zero, List.set_cons_succ]
            refine wpAnyK_takeTo 3 (some 19) (.agg #[.int .i64 xk, .int .i64 xi, .string xt]) [8] rfl rfl (by kernel_rfl) (by kernel_rfl) (by kernel_rfl) (by kernel_rfl) (fun _ _ _ h => h) hS (Or.inl ⟨rfl, fun w1 hw1 => by have hw1 : w1 = W.drew := hw1; subst hw1; go_simp⟩) ?_
            simp only [Act.put, List.setIfInBounds_toArray, List.set_cons_zero, List.set_cons_succ]
            refine wpAnyK_takeTo 4 (some 20) (.slice (some ⟨g2, off2, none⟩) n c2) [6, 7, 8] rfl rfl (by kernel_rfl) (by kernel_rfl) (by kernel_rfl) (by kernel_rfl) (fun _ _ _ h => h) hS (Or.inl ⟨rfl, fun w1 hw1 => by have hw1 : w1 = W.drew := hw1; subst hw1; go_simp⟩) ?_
            simp only [Act.put, List.setIfInBounds_toArray, List.set_cons_zero, List.set_cons_succ]
            refine wpAnyK_takeTo 5 (some 21) (.int .i64 (j : Int)) [6, 7, 8] rfl rfl (by kernel_rfl) (by kernel_rfl) (by kernel_rfl) (by kernel_rfl) (fun _ _ _ h => h) hS (Or.inl ⟨rfl, fun w1 hw1 => by have hw1 : w1 = W.drew := hw1; subst hw1; go_simp⟩) ?_
            simp only [Act.put, List.setIfInBounds_toArray, List.set_cons_zero, List.set_cons_succ]
            refine wpAnyK_takeTo 6 (some 22) (.pointer (some ⟨g2, off2 + j * 3, none⟩)) [7, 8] rfl rfl (by kernel_rfl) (by kernel_rfl) (by kernel_rfl) (by kernel_rfl) (fun _ _ _ h => h) hS (Or.inl ⟨rfl, fun w1 hw1 => by have hw1 : w1 = W.drew := hw1; subst hw1; go_simp⟩) ?_
            simp only [Act.put, List.setIfInBounds_toArray, List.set_cons_zero, List.set_cons_succ]
            refine wpAnyK_takeTo 7 (some 23) (.agg #[.int .i64 xk, .int .i64 xi, .string xt]) [8] rfl rfl (by kernel_rfl) (by kernel_rfl) (by kernel_rfl) (by kernel_rfl) (fun _ _ _ h => h) hS (Or.inl ⟨rfl, fun w1 hw1 => by have hw1 : w1 = W.drew := hw1; subst hw1; go_simp⟩) ?_
            simp only [Act.put, List.setIfInBounds_toArray, List.set_cons_zero, List.set_cons_succ]
            refine wpAnyK_takeTo 8 (some 24) (.bool false) [] rfl rfl (by kernel_rfl) (by kernel_rfl) (by kernel_rfl) (by kernel_rfl) (fun _ _ _ h => h) hS (Or.inl ⟨rfl, fun w1 hw1 => by have hw1 : w1 = W.drew := hw1; subst hw1; go_simp⟩) ?_
            simp only [Act.put, List.setIfInBounds_toArray, List.set_cons_zero, List.set_cons_succ]
            clear hS e0 e1 e2 d0 d1 d2
            refine wpAnyK_done (by kernel_rfl) ?_ _
            go_wp2
            go_roundw
            case rel => exact ⟨j + 1, by omega, by go_num, fun k hk => by
              rcases Nat.lt_or_ge k j with h | h
              · exact HAL.out k h
              · obtain rfl : k = j := by omega
                rw [HX.out, HY.out], HD.out⟩
            case measure => simp [intOf]; omega
          · have HNE : Hid (¬ (⟨xk, xi, xt⟩ : Vl) = ⟨xk, xi, yt⟩) := hide (fun e => k3 (by injection e))
            have k3b : (xt.toList == yt.toList) = false := (Go.Lib.bytes_beq_false_iff xt yt).2 k3
            have k3l : ¬ (xt.toList = yt.toList) := by simpa using k3b
            clear k3
            go_wp2_with fail
            refine wp_region_K (fun _ => true) (fun U : World => U = W.drew) (by kernel_rfl) ?_
            have hS : (fun U : World => U = W.drew) W.drew := rfl
            refine wpAnyK_takeTo 0 (some 16) (.slice (some ⟨g, off, none⟩) n c) [2, 3, 8] rfl rfl (by kernel_rfl) (by kernel_rfl) (by kernel_rfl) (by kernel_rfl) (fun _ _ _ h => h) hS (Or.inl ⟨rfl, fun w1 hw1 => by have hw1 : w1 = W.drew := hw1; subst hw1; go_simp⟩) ?_
            simp only [Act.put, List.setIfInBounds_toArray, List.set_cons_zero, List.set_cons_succ]
            refine wpAnyK_takeTo 1 (some 17) (.int .i64 (j : Int)) [2, 3, 8] rfl rfl (by kernel_rfl) (by kernel_rfl) (by kernel_rfl) (by kernel_rfl) (fun _ _ _ h => h) hS (Or.inl ⟨rfl, fun w1 hw1 => by have hw1 : w1 = W.drew := hw1; subst hw1; go_simp⟩) ?_
            simp only [Act.put, List.setIfInBounds_toArray, List.set_cons_zero, List.set_cons_succ]
            refine wpAnyK_takeTo 2 (some 18) (.pointer (some ⟨g, off + j * 3, none⟩)) [3, 8] rfl rfl (by kernel_rfl) (by kernel_rfl) (by kernel_rfl) (by kernel_rfl) (fun _ _ _ h => h) hS (Or.inl ⟨rfl, fun w1 hw1 => by have hw1 : w1 = W.drew := hw1; subst hw1; go_simp⟩) ?_
            simp only [Act.put, List.setIfInBounds_toArray, List.set_cons_zero, List.set_cons_succ]
            refine wpAnyK_takeTo 3 (some 19) (.agg #[.int .i64 xk, .int .i64 xi, .string xt]) [8] rfl rfl (by kernel_rfl) (by kernel_rfl) (by kernel_rfl) (by kernel_rfl) (fun _ _ _ h => h) hS (Or.inl ⟨rfl, fun w1 hw1 => by have hw1 : w1 = W.drew := hw1; subst hw1; go_simp⟩) ?_
            simp only [Act.put, List.setIfInBounds_toArray, List.set_cons_zero, List.set_cons_succ]
            refine wpAnyK_takeTo 4 (some 20) (.slice (some ⟨g2, off2, none⟩) n c2) [6, 7, 8] rfl rfl (by kernel_rfl) (by kernel_rfl) (by kernel_rfl) (by kernel_rfl) (fun _ _ _ h => h) hS (Or.inl ⟨rfl, fun w1 hw1 => by have hw1 : w1 = W.drew := hw1; subst hw1; go_simp⟩) ?_
            simp only [Act.put, List.setIfInBounds_toArray, List.set_cons_zero, List.set_cons_succ]
            refine wpAnyK_takeTo 5 (some 21) (.int .i64 (j : Int)) [6, 7, 8] rfl rfl (by kernel_rfl) (by kernel_rfl) (by kernel_rfl) (by kernel_rfl) (fun _ _ _ h => h) hS (Or.inl ⟨rfl, fun w1 hw1 => by have hw1 : w1 = W.drew := hw1; subst hw1; go_simp⟩) ?_
            simp only [Act.put, List.setIfInBounds_toArray, List.set_cons_zero, List.set_cons_succ]
            refine wpAnyK_takeTo 6 (some 22) (.pointer (some ⟨g2, off2 + j * 3, none⟩)) [7, 8] rfl rfl (by kernel_rfl) (by kernel_rfl) (by kernel_rfl) (by kernel_rfl) (fun _ _ _ h => h) hS (Or.inl ⟨rfl, fun w1 hw1 => by have hw1 : w1 = W.drew := hw1; subst hw1; go_simp⟩) ?_
            simp only [Act.put, List.setIfInBounds_toArray, List.set_cons_zero, List.set_cons_succ]
            refine wpAnyK_takeTo 7 (some 23) (.agg #[.int .i64 xk, .int .i64 xi, .string yt]) [8] rfl rfl (by kernel_rfl) (by kernel_rfl) (by kernel_rfl) (by kernel_rfl) (fun _ _ _ h => h) hS (Or.inl ⟨rfl, fun w1 hw1 => by have hw1 : w1 = W.drew := hw1; subst hw1; go_simp⟩) ?_
            simp only [Act.put, List.setIfInBounds_toArray, List.set_cons_zero, List.set_cons_succ]
            refine wpAnyK_takeTo 8 (some 24) (.bool true) [] rfl rfl (by kernel_rfl) (by kernel_rfl) (by kernel_rfl) (by kernel_rfl) (fun _ _ _ h => h) hS (Or.inl ⟨rfl, fun w1 hw1 => by have hw1 : w1 = W.drew := hw1; subst hw1; go_simp⟩) ?_
            simp only [Act.put, List.setIfInBounds_toArray, List.set_cons_zero, List.set_cons_succ]
            clear hS e0 e1 e2 d0 d1 d2
            refine wpAnyK_done (by kernel_rfl) ?_ _
            go_wp2
            go_ret
            exact ⟨.inr ⟨fun e => by have h := HX.out; rw [e, HY.out] at h; exact HNE.out (Option.some.inj h).symm, rfl⟩, HD.out⟩
        · have HNE : Hid (¬ (⟨xk, xi, xt⟩ : Vl) = ⟨xk, yi, yt⟩) := hide (fun e => k2 (by injection e))
          have k2b : (xi == yi) = false := by simpa using k2
          go_wp2_with fail
          refine wp_region_K (fun _ => true) (fun U : World => U = W.drew) (by kernel_rfl) ?_
          have hS : (fun U : World => U = W.drew) W.drew := rfl
          refine wpAnyK_takeTo 0 (some 16) (.slice (some ⟨g, off, none⟩) n c) [2, 3, 8] rfl rfl (by kernel_rfl) (by kernel_rfl) (by kernel_rfl) (by kernel_rfl) (fun _ _ _ h => h) hS (Or.inl ⟨rfl, fun w1 hw1 => by have hw1 : w1 = W.drew := hw1; subst hw1; go_simp⟩) ?_
          simp only [Act.put, List.setIfInBounds_toArray, List.set_cons_zero, List.set_cons_succ]
          refine wpAnyK_takeTo 1 (some 17) (.int .i64 (j : Int)) [2, 3, 8] rfl rfl (by kernel_rfl) (by kernel_rfl) (by kernel_rfl) (by kernel_rfl) (fun _ _ _ h => h) hS (Or.inl ⟨rfl, fun w1 hw1 => by have hw1 : w1 = W.drew := hw1; subst hw1; go_simp⟩) ?_
          simp only [Act.put, List.setIfInBounds_toArray, List.set_cons_zero, List.set_cons_succ]
          refine wpAnyK_takeTo 2 (some 18) (.pointer (some ⟨g, off + j * 3, none⟩)) [3, 8] rfl rfl (by kernel_rfl) (by kernel_rfl) (by kernel_rfl) (by kernel_rfl) (fun _ _ _ h => h) hS (Or.inl ⟨rfl, fun w1 hw1 => by have hw1 : w1 = W.drew := hw1; subst hw1; go_simp⟩) ?_
          simp only [Act.put, List.setIfInBounds_toArray, List.set_cons_zero, List.set_cons_succ]
          refine wpAnyK_takeTo 3 (some 19) (.agg #[.int .i64 xk, .int .i64 xi, .string xt]) [8] rfl rfl (by kernel_rfl) (by kernel_rfl) (by kernel_rfl) (by kernel_rfl) (fun _ _ _ h => h) hS (Or.inl ⟨rfl, fun w1 hw1 => by have hw1 : w1 = W.drew := hw1; subst hw1; go_simp⟩) ?_
          simp only [Act.put, List.setIfInBounds_toArray, List.set_cons_zero, List.set_cons_succ]
          refine wpAnyK_takeTo 4 (some 20) (.slice (some ⟨g2, off2, none⟩) n c2) [6, 7, 8] rfl rfl (by kernel_rfl) (by kernel_rfl) (by kernel_rfl) (by kernel_rfl) (fun _ _ _ h => h) hS (Or.inl ⟨rfl, fun w1 hw1 => by have hw1 : w1 = W.drew := hw1; subst hw1; go_simp⟩) ?_
          simp only [Act.put, List.setIfInBounds_toArray, List.set_cons_zero, List.set_cons_succ]
          refine wpAnyK_takeTo 5 (some 21) (.int .i64 (j : Int)) [6, 7, 8] rfl rfl (by kernel_rfl) (by kernel_rfl) (by kernel_rfl) (by kernel_rfl) (fun _ _ _ h => h) hS (Or.inl ⟨rfl, fun w1 hw1 => by have hw1 : w1 = W.drew := hw1; subst hw1; go_simp⟩) ?_
          simp only [Act.put, List.setIfInBounds_toArray, List.set_cons_zero, List.set_cons_succ]
          refine wpAnyK_takeTo 6 (some 22) (.pointer (some ⟨g2, off2 + j * 3, none⟩)) [7, 8] rfl rfl (by kernel_rfl) (by kernel_rfl) (by kernel_rfl) (by kernel_rfl) (fun _ _ _ h => h) hS (Or.inl ⟨rfl, fun w1 hw1 => by have hw1 : w1 = W.drew := hw1; subst hw1; go_simp⟩) ?_
          simp only [Act.put, List.setIfInBounds_toArray, List.set_cons_zero, List.set_cons_succ]
          refine wpAnyK_takeTo 7 (some 23) (.agg #[.int .i64 xk, .int .i64 yi, .string yt]) [8] rfl rfl (by kernel_rfl) (by kernel_rfl) (by kernel_rfl) (by kernel_rfl) (fun _ _ _ h => h) hS (Or.inl ⟨rfl, fun w1 hw1 => by have hw1 : w1 = W.drew := hw1; subst hw1; go_simp⟩) ?_
          simp only [Act.put, List.setIfInBounds_toArray, List.set_cons_zero, List.set_cons_succ]
          refine wpAnyK_takeTo 8 (some 24) (.bool true) [] rfl rfl (by kernel_rfl) (by kernel_rfl) (by kernel_rfl) (by kernel_rfl) (fun _ _ _ h => h) hS (Or.inl ⟨rfl, fun w1 hw1 => by have hw1 : w1 = W.drew := hw1; subst hw1; go_simp⟩) ?_
          simp only [Act.put, List.setIfInBounds_toArray, List.set_cons_zero, List.set_cons_succ]
          clear hS e0 e1 e2 d0 d1 d2
          refine wpAnyK_done (by kernel_rfl) ?_ _
          go_wp2
          go_ret
          exact ⟨.inr ⟨fun e => by have h := HX.out; rw [e, HY.out] at h; exact HNE.out (Option.some.inj h).symm, rfl⟩, HD.out⟩
      · have HNE : Hid (¬ (⟨xk, xi, xt⟩ : Vl) = ⟨yk, yi, yt⟩) := hide (fun e => k1 (by injection e))
        have k1b : (xk == yk) = false := by simpa using k1
        go_wp2_with fail
        refine wp_region_K (fun _ => true) (fun U : World => U = W.drew) (by kernel_rfl) ?_
        have hS : (fun U : World => U = W.drew) W.drew := rfl
        refine wpAnyK_takeTo 0 (some 16) (.slice (some ⟨g, off, none⟩) n c) [2, 3, 8] rfl rfl (by kernel_rfl) (by kernel_rfl) (by kernel_rfl) (by kernel_rfl) (fun _ _ _ h => h) hS (Or.inl ⟨rfl, fun w1 hw1 => by have hw1 : w1 = W.drew := hw1; subst hw1; go_simp⟩) ?_
        simp only [Act.put, List.setIfInBounds_toArray, List.set_cons_zero, List.set_cons_succ]
        refine wpAnyK_takeTo 1 (some 17) (.int .i64 (j : Int)) [2, 3, 8] rfl rfl (by kernel_rfl) (by kernel_rfl) (by kernel_rfl) (by kernel_rfl) (fun _ _ _ h => h) hS (Or.inl ⟨rfl, fun w1 hw1 => by have hw1 : w1 = W.drew := hw1; subst hw1; go_simp⟩) ?_
        simp only [Act.put, List.setIfInBounds_toArray, List.set_cons_zero, List.set_cons_succ]
        refine wpAnyK_takeTo 2 (some 18) (.pointer (some ⟨g, off + j * 3, none⟩)) [3, 8] rfl rfl (by kernel_rfl) (by kernel_rfl) (by kernel_rfl) (by kernel_rfl) (fun _ _ _ h => h) hS (Or.inl ⟨rfl, fun w1 hw1 => by have hw1 : w1 = W.drew := hw1; subst hw1; go_simp⟩) ?_
        simp only [Act.put, List.setIfInBounds_toArray, List.set_cons_zero, List.set_cons_succ]
        refine wpAnyK_takeTo 3 (some 19) (.agg #[.int .i64 xk, .int .i64 xi, .string xt]) [8] rfl rfl (by kernel_rfl) (by kernel_rfl) (by kernel_rfl) (by kernel_rfl) (fun _ _ _ h => h) hS (Or.inl ⟨rfl, fun w1 hw1 => by have hw1 : w1 = W.drew := hw1; subst hw1; go_simp⟩) ?_
        simp only [Act.put, List.setIfInBounds_toArray, List.set_cons_zero, List.set_cons_succ]
        refine wpAnyK_takeTo 4 (some 20) (.slice (some ⟨g2, off2, none⟩) n c2) [6, 7, 8] rfl rfl (by kernel_rfl) (by kernel_rfl) (by kernel_rfl) (by kernel_rfl) (fun _ _ _ h => h) hS (Or.inl ⟨rfl, fun w1 hw1 => by have hw1 : w1 = W.drew := hw1; subst hw1; go_simp⟩) ?_
        simp only [Act.put, List.setIfInBounds_toArray, List.set_cons_zero, List.set_cons_succ]
        refine wpAnyK_takeTo 5 (some 21) (.int .i64 (j : Int)) [6, 7, 8] rfl rfl (by kernel_rfl) (by kernel_rfl) (by kernel_rfl) (by kernel_rfl) (fun _ _ _ h => h) hS (Or.inl ⟨rfl, fun w1 hw1 => by have hw1 : w1 = W.drew := hw1; subst hw1; go_simp⟩) ?_
        simp only [Act.put, List.setIfInBounds_toArray, List.set_cons_zero, List.set_cons_succ]
        refine wpAnyK_takeTo 6 (some 22) (.pointer (some ⟨g2, off2 + j * 3, none⟩)) [7, 8] rfl rfl (by kernel_rfl) (by kernel_rfl) (by kernel_rfl) (by kernel_rfl) (fun _ _ _ h => h) hS (Or.inl ⟨rfl, fun w1 hw1 => by have hw1 : w1 = W.drew := hw1; subst hw1; go_simp⟩) ?_
        simp only [Act.put, List.setIfInBounds_toArray, List.set_cons_zero, List.set_cons_succ]
        refine wpAnyK_takeTo 7 (some 23) (.agg #[.int .i64 yk, .int .i64 yi, .string yt]) [8] rfl rfl (by kernel_rfl) (by kernel_rfl) (by kernel_rfl) (by kernel_rfl) (fun _ _ _ h => h) hS (Or.inl ⟨rfl, fun w1 hw1 => by have hw1 : w1 = W.drew := hw1; subst hw1; go_simp⟩) ?_
        simp only [Act.put, List.setIfInBounds_toArray, List.set_cons_zero, List.set_cons_succ]
        refine wpAnyK_takeTo 8 (some 24) (.bool true) [] rfl rfl (by kernel_rfl) (by kernel_rfl) (by kernel_rfl) (by kernel_rfl) (fun _ _ _ h => h) hS (Or.inl ⟨rfl, fun w1 hw1 => by have hw1 : w1 = W.drew := hw1; subst hw1; go_simp⟩) ?_
        simp only [Act.put, List.setIfInBounds_toArray, List.set_cons_zero, List.set_cons_succ]
        clear hS e0 e1 e2 d0 d1 d2
        refine wpAnyK_done (by kernel_rfl) ?_ _
        go_wp2
        go_ret
        exact ⟨.inr ⟨fun e => by have h := HX.out; rw [e, HY.out] at h; exact HNE.out (Option.some.inj h).symm, rfl⟩, HD.out⟩
    · have hcj : ¬ ((j : Int) < (n : Int)) := by omega
      have hcjb : decide ((j : Int) < (n : Int)) = false := by simp; omega
      have HEQ : Hid (L = M) := hide (List.ext_getElem? (fun k => by
        rcases Nat.lt_or_ge k j with h | h
        · exact HAL.out k h
        · rw [List.getElem?_eq_none (by rw [HN.out]; omega), List.getElem?_eq_none (by rw [HN2.out]; omega)]))
      go_wp2
      go_ret
      exact ⟨.inl ⟨HEQ.out, rfl⟩, HF.out⟩
end Go.Proofs.Ytdeopneififnnaa
