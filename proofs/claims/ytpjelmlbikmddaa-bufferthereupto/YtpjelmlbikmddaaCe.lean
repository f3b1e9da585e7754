/- Frames are compared by their pages. -/
import Derived.Test.YtpjelmlbikmddaaJe
namespace Go.Proofs.Ytpjelmlbikmddaa
open Go.RowKit
set_option maxRecDepth 100000
set_option linter.unusedVariables false

theorem isNaN_any (x : Int) (w : World) : Calls Try.prog 62 #[.int .i64 x] w fun e w' => e = .returned (.bool false) ∧ w' = w := by
  go_enter Try.func62, Try.ntmps62
  go_wp2
  go_ret
  exact ⟨rfl, rfl⟩
theorem compare_any (x y : Int) (w : World) : Calls Try.prog 51 #[.int .i64 x, .int .i64 y] w fun e w' => ∃ z : Int, e = .returned (.int .i64 z) ∧ Fr w w' (fun _ => False) := by
  have HN := hide (fun z W => isNaN_any z W)
  go_enter Try.func51, Try.ntmps51
  go_wp2_with (go_at_call 62; refine (HN.out _ _).mono ?_; rintro e w' ⟨rfl, hV⟩; obtain rfl := hV.symm; clear hV)
  all_goals
    go_ret
    exact ⟨_, rfl, Fr.refl _ _⟩
set_option maxHeartbeats 1000000 in
theorem cmp50_any {w : World} {gf x y : Nat} {X Y : Frm} (hx : FrAt w gf (x * 261) X) (hy : FrAt w gf (y * 261) Y) :
    Calls Try.prog 50 #[.pointer (some ⟨gf, x * 261, none⟩), .pointer (some ⟨gf, y * 261, none⟩)] w fun e w' => ∃ z : Int, e = .returned (.int .i64 z) ∧ Fr w w' (fun _ => False) := by
  have HX := hide hx
  have HY := hide hy
  clear hx hy
  go_enter Try.func50, Try.ntmps50
  go_wp2_with fail
  refine wp_region_K (fun _ => true) (fun V : World => V.cell? ⟨gf, x * 261, none⟩ = some (.int .i64 X.page) ∧ V.cell? ⟨gf, y * 261, none⟩ = some (.int .i64 Y.page)) (by kernel_rfl) ?_
  have hS : (fun V : World => V.cell? ⟨gf, x * 261, none⟩ = some (.int .i64 X.page) ∧ V.cell? ⟨gf, y * 261, none⟩ = some (.int .i64 Y.page)) w.drew := ⟨HX.out.page, HY.out.page⟩
  have FD := Fr.drew w (fun _ => False)
  generalize w.drew = W1 at *
  refine wpAnyK_takeTo 0 (some 5) (.pointer (some ⟨gf, x * 261, none⟩)) [] rfl rfl (by kernel_rfl) (by kernel_rfl) (by kernel_rfl) (by kernel_rfl) (fun _ _ _ h => h) hS (Or.inl ⟨rfl, fun w1 hw1 => by go_simp⟩) ?_
  simp only [Act.put, List.setIfInBounds_toArray, List.set_cons_zero, List.set_cons_succ]
  refine wpAnyK_takeTo 1 (some 6) (.pointer (some ⟨gf, x * 261, none⟩)) [] rfl rfl (by kernel_rfl) (by kernel_rfl) (by kernel_rfl) (by kernel_rfl) (fun _ _ _ h => h) hS (Or.inl ⟨rfl, fun w1 hw1 => by go_simp⟩) ?_
  simp only [Act.put, List.setIfInBounds_toArray, List.set_cons_zero, List.set_cons_succ]
  refine wpAnyK_takeTo 2 (some 7) (.pointer (some ⟨gf, x * 261, none⟩)) [] rfl rfl (by kernel_rfl) (by kernel_rfl) (by kernel_rfl) (by kernel_rfl) (fun _ _ _ h => h) hS (Or.inl ⟨rfl, fun w1 hw1 => by go_simp⟩) ?_
  simp only [Act.put, List.setIfInBounds_toArray, List.set_cons_zero, List.set_cons_succ]
  refine wpAnyK_takeTo 3 (some 8) (.int .i64 X.page) [] rfl rfl (by kernel_rfl) (by kernel_rfl) (by kernel_rfl) (by kernel_rfl) (fun _ _ _ h => h) hS (Or.inl ⟨rfl, fun w1 hw1 => by obtain ⟨x1, x2⟩ := hw1; go_simp⟩) ?_
  simp only [Act.put, List.setIfInBounds_toArray, List.set_cons_zero, List.set_cons_succ]
  refine wpAnyK_takeTo 4 (some 9) (.pointer (some ⟨gf, y * 261, none⟩)) [] rfl rfl (by kernel_rfl) (by kernel_rfl) (by kernel_rfl) (by kernel_rfl) (fun _ _ _ h => h) hS (Or.inl ⟨rfl, fun w1 hw1 => by go_simp⟩) ?_
  simp only [Act.put, List.setIfInBounds_toArray, List.set_cons_zero, List.set_cons_succ]
  refine wpAnyK_takeTo 5 (some 10) (.pointer (some ⟨gf, y * 261, none⟩)) [] rfl rfl (by kernel_rfl) (by kernel_rfl) (by kernel_rfl) (by kernel_rfl) (fun _ _ _ h => h) hS (Or.inl ⟨rfl, fun w1 hw1 => by go_simp⟩) ?_
  simp only [Act.put, List.setIfInBounds_toArray, List.set_cons_zero, List.set_cons_succ]
  refine wpAnyK_takeTo 6 (some 11) (.pointer (some ⟨gf, y * 261, none⟩)) [] rfl rfl (by kernel_rfl) (by kernel_rfl) (by kernel_rfl) (by kernel_rfl) (fun _ _ _ h => h) hS (Or.inl ⟨rfl, fun w1 hw1 => by go_simp⟩) ?_
  simp only [Act.put, List.setIfInBounds_toArray, List.set_cons_zero, List.set_cons_succ]
  refine wpAnyK_takeTo 7 (some 12) (.int .i64 Y.page) [] rfl rfl (by kernel_rfl) (by kernel_rfl) (by kernel_rfl) (by kernel_rfl) (fun _ _ _ h => h) hS (Or.inl ⟨rfl, fun w1 hw1 => by obtain ⟨x1, x2⟩ := hw1; go_simp⟩) ?_
  simp only [Act.put, List.setIfInBounds_toArray, List.set_cons_zero, List.set_cons_succ]
  refine wpAnyK_one (i := 8) (by kernel_rfl) rfl rfl ?_
  refine wp_call_to (some 13) rfl 51 #[.int .i64 X.page, .int .i64 Y.page] (by go_simp) (compare_any X.page Y.page W1) ?_
  rintro e W2 ⟨z, rfl, f2⟩
  have hS : (fun V : World => V.cell? ⟨gf, x * 261, none⟩ = some (.int .i64 X.page) ∧ V.cell? ⟨gf, y * 261, none⟩ = some (.int .i64 Y.page)) W2 := ⟨by rw [World.cell?_of_block (w := W1) (f2.block gf (World.block_lt_of_cell? W1 _ hS.1) (fun h => h))]; exact hS.1, by rw [World.cell?_of_block (w := W1) (f2.block gf (World.block_lt_of_cell? W1 _ hS.1) (fun h => h))]; exact hS.2⟩
  refine ⟨_, rfl, fun _ => hS, ?_⟩
  simp only [Act.put, List.setIfInBounds_toArray, List.set_cons_zero, List.set_cons_succ]
  refine wpAnyK_takeTo 9 (some 4) (.int .i64 z) [] rfl rfl (by kernel_rfl) (by kernel_rfl) (by kernel_rfl) (by kernel_rfl) (fun _ _ _ h => h) hS (Or.inl ⟨rfl, fun w1 hw1 => by go_simp⟩) ?_
  simp only [Act.put, List.setIfInBounds_toArray, List.set_cons_zero, List.set_cons_succ]
  refine wpAnyK_done (by kernel_rfl) ?_ _
  have HF := hide ((FD.trans f2).mono (Y := fun _ => False) (by simp))
  clear hS FD f2
  go_wp2
  go_ret
  exact ⟨z, rfl, HF.out⟩
end Go.Proofs.Ytpjelmlbikmddaa
