/- The walk of PeriodRelates. -/
import Derived.Test.YtbdpdobaacbkkaaDoorRr
import Derived.Test.YtbdpdobaacbkkaaDoorTw
namespace Go.Proofs.YtbdpdobaacbkkaaDoor
open Go.RowKit
set_option linter.unusedVariables false

theorem over_rel (a b : Per) (h : relE a b = 0) : overB a b = true ↔ 3 ≤ relV a b ∧ relV a b ≤ 11 := by
  have ho := relOk_of a b h
  obtain ⟨ra, rb⟩ := rel_right ho
  have h1 : overB a b = rightB (bothP a b) := by simp [overB, (rightB_iff a).2 ra, (rightB_iff b).2 rb]
  rw [h1, rightB_iff, relV, if_pos ho]
  unfold Right at ra rb
  unfold Right bothP relN relIn
  simp only []
  (repeat' split) <;> omega
theorem over_wrong (a b : Per) (h : ¬ relE a b = 0) : overB a b = false := by
  unfold relE at h
  split at h
  · exact absurd rfl h
  · rename_i ho
    have : relOk a b = false := by simpa using ho
    unfold relOk at this
    simp [overB, this]
theorem overP_no {a b : Per} (h : overB a b = false) : (overP a b).lo = 0 ∧ (overP a b).hi = 0 := by simp [overP, h]
theorem overP_yes {a b : Per} (h : overB a b = true) : (overP a b).lo = max a.lo b.lo ∧ (overP a b).hi = min a.hi b.hi := by simp [overP, h, bothP]
/-- A new box, filled. -/
abbrev boxed (V : World) (x y : Int) : World := V.alloc (.cells #[.int .i64 x, .int .i64 y] 23)
theorem boxed_fr (V : World) (x y : Int) : Fr V (boxed V x y) (fun _ => False) := Fr.alloc V _ _
theorem boxed_two (V : World) (x y : Int) : Two (boxed V x y) V.heap.size (.int .i64 x) (.int .i64 y) := two_of (heap_alloc_new V _)

set_option maxRecDepth 100000 in
set_option maxHeartbeats 8000000 in
theorem relates_walk (a b : Per) (t : Int) (w : World) (htab : Tab w) : Calls Tryd.prog 3 #[perV a, perV b, .int .i64 t] w fun e w' => e = .returned (.bool true) ∧ Fr w w' (fun _ => False) := by
  have HBX := hide (bx2_bx w a b)
  have HF0 := hide (bx2_fr w a b)
  have HTB := hide htab
  have h0 := relate_any ⟨1, 5⟩ ⟨3, 9⟩
  rw [show relV ⟨1, 5⟩ ⟨3, 9⟩ = 3 by decide, show relE ⟨1, 5⟩ ⟨3, 9⟩ = 0 by decide] at h0
  have h1 := relate_any a b
  have h2 := rrelate_any a b
  have h3 := check_any a
  have h4 := right_any a
  have h5 := has_any a t
  have h6 := rhas_any a t
  have h7 := overlap_any a b
  have HOR := hide (over_rel a b)
  have HOW := hide (over_wrong a b)
  have HPN := hide (@overP_no a b)
  have HPY := hide (@overP_yes a b)
  have r1 := show 0 ≤ relV a b ∧ relV a b ≤ 13 by unfold relV relN relIn; (repeat' split) <;> omega
  unfold perV at h0 h1 h2 h3 h4 h5 h6 h7 ⊢
  generalize relV a b = n at *
  generalize relE a b = e0 at *
  generalize hasB a t = hb at *
  generalize overB a b = o at *
  generalize (overP a b).lo = pl at *
  generalize (overP a b).hi = ph at *
  clear htab
  go_enter Tryd.func3, Tryd.ntmps3
  go_wp2_with fail
  change Calls Tryd.prog 6 _ (bx2 w a b) _
  obtain ⟨W0, hW0⟩ : ∃ W0, W0 = bx2 w a b := ⟨_, rfl⟩
  obtain ⟨gb, hgb⟩ : ∃ gb, gb = w.heap.size := ⟨_, rfl⟩
  rw [← hW0] at HBX HF0 ⊢
  rw [← hgb] at HBX ⊢
  clear hW0 hgb
  refine (h0 W0 (HTB.out.fr HF0.out)).mono ?_
  rintro e W1 ⟨rfl, f1⟩
  have HB1 := hide (HBX.out.fr f1)
  have HF1 := hide ((HF0.out.trans f1).mono (Y := fun _ => False) (by simp))
  clear f1 HBX HF0 h0
  go_wp2_with fail
  refine (awake_any W1).mono ?_
  rintro e W2 ⟨rfl, f2⟩
  have HB2 := hide (HB1.out.fr f2)
  have HF2 := hide ((HF1.out.trans f2).mono (Y := fun _ => False) (by simp))
  clear f2 HB1 HF1
  have t0 := HB2.out.ta.1
  have t1 := HB2.out.ta.2.1
  have t2 := HB2.out.tb.1
  have t3 := HB2.out.tb.2.1
  go_wp2_with fail
  refine (h1 W2 (HTB.out.fr HF2.out)).mono ?_
  rintro e W3 ⟨rfl, f3⟩
  have HB3 := hide (HB2.out.fr f3)
  have HF3 := hide ((HF2.out.trans f3).mono (Y := fun _ => False) (by simp))
  clear f3 HB2 HF2 t0 t1 t2 t3 h1
  have t0 := HB3.out.ta.1
  have t1 := HB3.out.ta.2.1
  have t2 := HB3.out.tb.1
  have t3 := HB3.out.tb.2.1
  go_wp2_with fail
  refine (h2 W3).mono ?_
  rintro e W4 ⟨rfl, f4⟩
  have HB4 := hide (HB3.out.fr f4)
  have HF4 := hide ((HF3.out.trans f4).mono (Y := fun _ => False) (by simp))
  clear f4 HB3 HF3 t0 t1 t2 t3 h2
  go_wp2_with fail
  have hSx : ∀ V, Fr W4 V (fun _ => False) → V.cell? ⟨gb, 0, none⟩ = some (.int .i64 a.lo) ∧ V.cell? ⟨gb, 1, none⟩ = some (.int .i64 a.hi) := fun V hV => ⟨(HB4.out.ta.fr hV (fun h => h)).1, (HB4.out.ta.fr hV (fun h => h)).2.1⟩
  have FD := Fr.drew W4 (fun _ => False)
  have hS := hSx _ FD
  obtain ⟨rb, hrb⟩ : ∃ rb, rb = rightB a := ⟨_, rfl⟩
  rw [← hrb] at h4
  have hcd : codeP a = 0 ∧ rb = true ∨ codeP a = 40 ∧ rb = false := by
    by_cases hr : rightB a = true
    · exact .inl ⟨codeP_ok a hr, by rw [hrb, hr]⟩
    · have hr' : rightB a = false := by simpa using hr
      exact .inr ⟨codeP_no a hr', by rw [hrb, hr']⟩
  generalize codeP a = cd at *
  clear hrb
  refine wp_region_K (fun _ => true) (fun V => V.cell? ⟨gb, 0, none⟩ = some (.int .i64 a.lo) ∧ V.cell? ⟨gb, 1, none⟩ = some (.int .i64 a.hi)) (by kernel_rfl) ?_
  refine wpAnyK_takeTo 0 (some 43) (.int .i64 n) [] rfl rfl (by kernel_rfl) (by kernel_rfl) (by kernel_rfl) (by kernel_rfl) (fun _ _ _ h => h) hS (Or.inl ⟨rfl, fun w1 hw1 => by go_simp⟩) ?_
  simp only [Act.put, List.setIfInBounds_toArray, List.set_cons_zero, List.set_cons_succ]
  refine wpAnyK_takeTo 1 (some 44) (.int .i64 n) [] rfl rfl (by kernel_rfl) (by kernel_rfl) (by kernel_rfl) (by kernel_rfl) (fun _ _ _ h => h) hS (Or.inl ⟨rfl, fun w1 hw1 => by go_simp⟩) ?_
  simp only [Act.put, List.setIfInBounds_toArray, List.set_cons_zero, List.set_cons_succ]
  refine wpAnyK_takeTo 2 (some 45) (.bool false) [] rfl rfl (by kernel_rfl) (by kernel_rfl) (by kernel_rfl) (by kernel_rfl) (fun _ _ _ h => h) hS (Or.inl ⟨rfl, fun w1 hw1 => by go_simp⟩) ?_
  simp only [Act.put, List.setIfInBounds_toArray, List.set_cons_zero, List.set_cons_succ]
  refine wpAnyK_takeTo 3 (some 46) (.bool false) [] rfl rfl (by kernel_rfl) (by kernel_rfl) (by kernel_rfl) (by kernel_rfl) (fun _ _ _ h => h) hS (Or.inl ⟨rfl, fun w1 hw1 => by go_simp⟩) ?_
  simp only [Act.put, List.setIfInBounds_toArray, List.set_cons_zero, List.set_cons_succ]
  refine wpAnyK_takeTo 4 (some 47) (.int .i64 e0) [] rfl rfl (by kernel_rfl) (by kernel_rfl) (by kernel_rfl) (by kernel_rfl) (fun _ _ _ h => h) hS (Or.inl ⟨rfl, fun w1 hw1 => by go_simp⟩) ?_
  simp only [Act.put, List.setIfInBounds_toArray, List.set_cons_zero, List.set_cons_succ]
  refine wpAnyK_takeTo 5 (some 48) (.int .i64 e0) [] rfl rfl (by kernel_rfl) (by kernel_rfl) (by kernel_rfl) (by kernel_rfl) (fun _ _ _ h => h) hS (Or.inl ⟨rfl, fun w1 hw1 => by go_simp⟩) ?_
  simp only [Act.put, List.setIfInBounds_toArray, List.set_cons_zero, List.set_cons_succ]
  refine wpAnyK_takeTo 6 (some 49) (.bool false) [] rfl rfl (by kernel_rfl) (by kernel_rfl) (by kernel_rfl) (by kernel_rfl) (fun _ _ _ h => h) hS (Or.inl ⟨rfl, fun w1 hw1 => by go_simp⟩) ?_
  simp only [Act.put, List.setIfInBounds_toArray, List.set_cons_zero, List.set_cons_succ]
  refine wpAnyK_takeTo 7 (some 50) (.bool false) [] rfl rfl (by kernel_rfl) (by kernel_rfl) (by kernel_rfl) (by kernel_rfl) (fun _ _ _ h => h) hS (Or.inl ⟨rfl, fun w1 hw1 => by go_simp⟩) ?_
  simp only [Act.put, List.setIfInBounds_toArray, List.set_cons_zero, List.set_cons_succ]
  refine wpAnyK_takeTo 8 (some 51) (.bool false) [] rfl rfl (by kernel_rfl) (by kernel_rfl) (by kernel_rfl) (by kernel_rfl) (fun _ _ _ h => h) hS (Or.inl ⟨rfl, fun w1 hw1 => by go_simp⟩) ?_
  simp only [Act.put, List.setIfInBounds_toArray, List.set_cons_zero, List.set_cons_succ]
  refine wpAnyK_takeTo 9 (some 52) (.agg #[.int .i64 a.lo, .int .i64 a.hi]) [] rfl rfl (by kernel_rfl) (by kernel_rfl) (by kernel_rfl) (by kernel_rfl) (fun _ _ _ h => h) hS (Or.inl ⟨rfl, fun w1 hw1 => by obtain ⟨x0, x1⟩ := hw1; go_simp⟩) ?_
  simp only [Act.put, List.setIfInBounds_toArray, List.set_cons_zero, List.set_cons_succ]
  refine wpAnyK_takeTo 12 (some 55) (.agg #[.int .i64 a.lo, .int .i64 a.hi]) [] rfl rfl (by kernel_rfl) (by kernel_rfl) (by kernel_rfl) (by kernel_rfl) (fun _ _ _ h => h) hS (Or.inl ⟨rfl, fun w1 hw1 => by obtain ⟨x0, x1⟩ := hw1; go_simp⟩) ?_
  simp only [Act.put, List.setIfInBounds_toArray, List.set_cons_zero, List.set_cons_succ]
  refine wpAnyK_one (i := 10) (by kernel_rfl) rfl rfl ?_
  refine wp_call_to (some 53) rfl 9 #[.agg #[.int .i64 a.lo, .int .i64 a.hi]] (by go_simp) (h3 W4.drew) ?_
  rintro e V1 ⟨rfl, g1⟩
  have G1 : Fr W4 V1 (fun _ => False) := (FD.trans g1).mono (by simp)
  have hS := hSx V1 G1
  refine ⟨_, rfl, fun _ => hS, ?_⟩
  simp only [Act.put, List.setIfInBounds_toArray, List.set_cons_zero, List.set_cons_succ]
  refine wpAnyK_takeTo 11 (some 54) (.bool rb) [] rfl rfl (by kernel_rfl) (by kernel_rfl) (by kernel_rfl) (by kernel_rfl) (fun _ _ _ h => h) hS (Or.inl ⟨rfl, fun w1 hw1 => by rcases hcd with ⟨rfl, rfl⟩ | ⟨rfl, rfl⟩ <;> go_simp⟩) ?_
  simp only [Act.put, List.setIfInBounds_toArray, List.set_cons_zero, List.set_cons_succ]
  refine wpAnyK_one (i := 13) (by kernel_rfl) rfl rfl ?_
  refine wp_call_to (some 56) rfl 10 #[.agg #[.int .i64 a.lo, .int .i64 a.hi]] (by go_simp) (h4 V1) ?_
  rintro e V2 ⟨rfl, g2⟩
  have G2 : Fr W4 V2 (fun _ => False) := (G1.trans g2).mono (by simp)
  have hS := hSx V2 G2
  refine ⟨_, rfl, fun _ => hS, ?_⟩
  simp only [Act.put, List.setIfInBounds_toArray, List.set_cons_zero, List.set_cons_succ]
  refine wpAnyK_takeTo 14 (some 57) (.bool false) [] rfl rfl (by kernel_rfl) (by kernel_rfl) (by kernel_rfl) (by kernel_rfl) (fun _ _ _ h => h) hS (Or.inl ⟨rfl, fun w1 hw1 => by go_simp⟩) ?_
  simp only [Act.put, List.setIfInBounds_toArray, List.set_cons_zero, List.set_cons_succ]
  refine wpAnyK_takeTo 15 (some 58) (.bool false) [] rfl rfl (by kernel_rfl) (by kernel_rfl) (by kernel_rfl) (by kernel_rfl) (fun _ _ _ h => h) hS (Or.inl ⟨rfl, fun w1 hw1 => by go_simp⟩) ?_
  simp only [Act.put, List.setIfInBounds_toArray, List.set_cons_zero, List.set_cons_succ]
  refine wpAnyK_takeTo 16 (some 59) (.bool false) [] rfl rfl (by kernel_rfl) (by kernel_rfl) (by kernel_rfl) (by kernel_rfl) (fun _ _ _ h => h) hS (Or.inl ⟨rfl, fun w1 hw1 => by go_simp⟩) ?_
  simp only [Act.put, List.setIfInBounds_toArray, List.set_cons_zero, List.set_cons_succ]
  refine wpAnyK_takeTo 17 (some 60) (.agg #[.int .i64 a.lo, .int .i64 a.hi]) [] rfl rfl (by kernel_rfl) (by kernel_rfl) (by kernel_rfl) (by kernel_rfl) (fun _ _ _ h => h) hS (Or.inl ⟨rfl, fun w1 hw1 => by obtain ⟨x0, x1⟩ := hw1; go_simp⟩) ?_
  simp only [Act.put, List.setIfInBounds_toArray, List.set_cons_zero, List.set_cons_succ]
  refine wpAnyK_takeTo 18 (some 61) (.int .i64 t) [] rfl rfl (by kernel_rfl) (by kernel_rfl) (by kernel_rfl) (by kernel_rfl) (fun _ _ _ h => h) hS (Or.inl ⟨rfl, fun w1 hw1 => by go_simp⟩) ?_
  simp only [Act.put, List.setIfInBounds_toArray, List.set_cons_zero, List.set_cons_succ]
  refine wpAnyK_takeTo 20 (some 63) (.agg #[.int .i64 a.lo, .int .i64 a.hi]) [] rfl rfl (by kernel_rfl) (by kernel_rfl) (by kernel_rfl) (by kernel_rfl) (fun _ _ _ h => h) hS (Or.inl ⟨rfl, fun w1 hw1 => by obtain ⟨x0, x1⟩ := hw1; go_simp⟩) ?_
  simp only [Act.put, List.setIfInBounds_toArray, List.set_cons_zero, List.set_cons_succ]
  refine wpAnyK_takeTo 21 (some 64) (.int .i64 t) [] rfl rfl (by kernel_rfl) (by kernel_rfl) (by kernel_rfl) (by kernel_rfl) (fun _ _ _ h => h) hS (Or.inl ⟨rfl, fun w1 hw1 => by go_simp⟩) ?_
  simp only [Act.put, List.setIfInBounds_toArray, List.set_cons_zero, List.set_cons_succ]
  refine wpAnyK_one (i := 19) (by kernel_rfl) rfl rfl ?_
  refine wp_call_to (some 62) rfl 11 #[.agg #[.int .i64 a.lo, .int .i64 a.hi], .int .i64 t] (by go_simp) (h5 V2) ?_
  rintro e V3 ⟨rfl, g3⟩
  have G3 : Fr W4 V3 (fun _ => False) := (G2.trans g3).mono (by simp)
  have hS := hSx V3 G3
  refine ⟨_, rfl, fun _ => hS, ?_⟩
  simp only [Act.put, List.setIfInBounds_toArray, List.set_cons_zero, List.set_cons_succ]
  refine wpAnyK_one (i := 22) (by kernel_rfl) rfl rfl ?_
  refine wp_call_to (some 65) rfl 12 #[.agg #[.int .i64 a.lo, .int .i64 a.hi], .int .i64 t] (by go_simp) (h6 V3) ?_
  rintro e V4 ⟨rfl, g4⟩
  have G4 : Fr W4 V4 (fun _ => False) := (G3.trans g4).mono (by simp)
  have hS := hSx V4 G4
  refine ⟨_, rfl, fun _ => hS, ?_⟩
  simp only [Act.put, List.setIfInBounds_toArray, List.set_cons_zero, List.set_cons_succ]
  refine wpAnyK_takeTo 23 (some 66) (.bool false) [] rfl rfl (by kernel_rfl) (by kernel_rfl) (by kernel_rfl) (by kernel_rfl) (fun _ _ _ h => h) hS (Or.inl ⟨rfl, fun w1 hw1 => by go_simp⟩) ?_
  simp only [Act.put, List.setIfInBounds_toArray, List.set_cons_zero, List.set_cons_succ]
  refine wpAnyK_takeTo 24 (some 67) (.bool false) [] rfl rfl (by kernel_rfl) (by kernel_rfl) (by kernel_rfl) (by kernel_rfl) (fun _ _ _ h => h) hS (Or.inl ⟨rfl, fun w1 hw1 => by go_simp⟩) ?_
  simp only [Act.put, List.setIfInBounds_toArray, List.set_cons_zero, List.set_cons_succ]
  refine wpAnyK_done (by kernel_rfl) ?_ _
  have HB8 := hide (HB4.out.fr G4)
  have HF8 := hide ((HF4.out.trans G4).mono (Y := fun _ => False) (by simp))
  clear hS hSx FD G1 G2 G3 G4 g1 g2 g3 g4 HB4 HF4 h3 h4 h5 h6 hcd
  have t0 := HB8.out.ta.1
  have t1 := HB8.out.ta.2.1
  have t2 := HB8.out.tb.1
  have t3 := HB8.out.tb.2.1
  go_wp2_with fail
  refine (h7 V4).mono ?_
  rintro e V ⟨rfl, f9⟩
  have HB9 := hide (HB8.out.fr f9)
  have HF9 := hide ((HF8.out.trans f9).mono (Y := fun _ => False) (by simp))
  clear f9 HB8 HF8 t0 t1 t2 t3 h7
  have HBT := hide (boxed_two V pl ph)
  have HBF := hide (HB9.out.fr (boxed_fr V pl ph))
  have HFE := hide ((HF9.out.trans (boxed_fr V pl ph)).mono (Y := fun _ => False) (by simp))
  have x0 := HBT.out.1
  have x1 := HBT.out.2.1
  have t0 := HBF.out.ta.1
  have t1 := HBF.out.ta.2.1
  have t2 := HBF.out.tb.1
  have t3 := HBF.out.tb.2.1
  by_cases he : e0 = 0
  · subst he
    have hor := HOR.out (by first | rfl | trivial)
    by_cases hn : 3 ≤ n ∧ n ≤ 11
    · have ho := hor.2 hn
      subst ho
      obtain ⟨hn1, hn2⟩ := hn
      clear hor
      obtain ⟨rfl, rfl⟩ := HPY.out (by first | rfl | trivial)
      go_wp2
      go_ret
      exact ⟨rfl, HFE.out⟩
    · have ho : o = false := by
        cases o with
        | false => rfl
        | true => exact absurd (hor.1 rfl) hn
      subst ho
      obtain ⟨rfl, rfl⟩ := HPN.out (by first | rfl | trivial)
      by_cases hn2 : n ≤ 2
      · go_wp2
        go_ret
        exact ⟨rfl, HFE.out⟩
      · have hn3 : 12 ≤ n := by omega
        go_wp2
        go_ret
        exact ⟨rfl, HFE.out⟩
  · have ho := HOW.out he
    subst ho
    obtain ⟨rfl, rfl⟩ := HPN.out (by first | rfl | trivial)
    go_wp2
    go_ret
    exact ⟨rfl, HFE.out⟩
end Go.Proofs.YtbdpdobaacbkkaaDoor
