/- The walk of Relate, over the table as it is laid. -/
import Derived.Test.YtbdpdobaacbkkaaDoorOv
namespace Go.Proofs.YtbdpdobaacbkkaaDoor
open Go.RowKit
set_option linter.unusedVariables false

/-- The table lies in the first variable. -/
def tabL : List Value := [.int .i64 3, .int .i64 8, .int .i64 9, .int .i64 4, .int .i64 7, .int .i64 10, .int .i64 5, .int .i64 6, .int .i64 11]
def Tab (w : World) : Prop := w.rangeAt 0 0 tabL
theorem Tab.fr {w w' : World} (h : Tab w) (hf : Fr w w' (fun _ => False)) : Tab w' := rangeAt_fr h hf (fun h => h)
theorem Tab.at {w : World} (h : Tab w) (i : Nat) (z : Int) (hz : tabL[i]? = some (.int .i64 z)) : w.cell? ⟨0, i, none⟩ = some (.int .i64 z) := by
  have := h i _ hz
  rwa [Nat.zero_add] at this
/-- How two periods stand to each other. -/
def relIn (a b : Per) : Int :=
  if a.lo < b.lo then (if a.hi < b.hi then 3 else if a.hi = b.hi then 8 else 9)
  else if a.lo = b.lo then (if a.hi < b.hi then 4 else if a.hi = b.hi then 7 else 10)
  else (if a.hi < b.hi then 5 else if a.hi = b.hi then 6 else 11)
def relN (a b : Per) : Int := if a.hi < b.lo then 1 else if a.hi = b.lo then 2 else if b.hi < a.lo then 13 else if b.hi = a.lo then 12 else relIn a b
def relOk (a b : Per) : Bool := rightB a && rightB b
def relV (a b : Per) : Int := if relOk a b = true then relN a b else 0
def relE (a b : Per) : Int := if relOk a b = true then 0 else 40

structure Bx2 (V : World) (g : Nat) (a b : Per) : Prop where
  ta : Two V g (.int .i64 a.lo) (.int .i64 a.hi)
  tb : Two V (g + 1) (.int .i64 b.lo) (.int .i64 b.hi)
theorem Bx2.fr {V V' : World} {g : Nat} {a b : Per} (h : Bx2 V g a b) (hf : Fr V V' (fun _ => False)) : Bx2 V' g a b := ⟨h.ta.fr hf (fun h => h), h.tb.fr hf (fun h => h)⟩
def bx2 (w : World) (a b : Per) : World := (w.alloc (.cells #[.int .i64 a.lo, .int .i64 a.hi] 23)).alloc (.cells #[.int .i64 b.lo, .int .i64 b.hi] 23)
theorem bx2_fr (w : World) (a b : Per) : Fr w (bx2 w a b) (fun _ => False) := up_two
theorem bx2_bx (w : World) (a b : Per) : Bx2 (bx2 w a b) w.heap.size a b := by
  have h2 := two_of (heap_alloc_new (w.alloc (.cells #[.int .i64 a.lo, .int .i64 a.hi] 23)) (.cells #[.int .i64 b.lo, .int .i64 b.hi] 23))
  simp only [World.size_alloc] at h2
  exact ⟨(two_of (heap_alloc_new w _)).fr (Fr.alloc _ _ (fun _ => False)) (fun h => h), h2⟩

set_option maxRecDepth 100000 in
set_option maxHeartbeats 8000000 in
theorem relate_any (a b : Per) (w : World) (htab : Tab w) : Calls Tryd.prog 6 #[perV a, perV b] w fun e w' => e = .returned (.tuple #[.int .i64 (relV a b), .int .i64 (relE a b)]) ∧ Fr w w' (fun _ => False) := by
  have HBX := hide (bx2_bx w a b)
  have HF0 := hide (bx2_fr w a b)
  have HTB := hide htab
  have hca := check_any a
  have hcb := check_any b
  unfold perV at hca hcb ⊢
  clear htab
  go_enter Tryd.func6, Tryd.ntmps6
  go_wp2_with fail
  change Calls Tryd.prog 9 _ (bx2 w a b) _
  obtain ⟨W0, hW0⟩ : ∃ W0, W0 = bx2 w a b := ⟨_, rfl⟩
  obtain ⟨gb, hgb⟩ : ∃ gb, gb = w.heap.size := ⟨_, rfl⟩
  rw [← hW0] at HBX HF0 ⊢
  rw [← hgb] at HBX ⊢
  clear hW0 hgb
  refine (hca W0).mono ?_
  rintro e W1 ⟨rfl, f1⟩
  have HBX1 := hide (HBX.out.fr f1)
  have HF1 := hide ((HF0.out.trans f1).mono (Y := fun _ => False) (by simp))
  clear hca f1 HBX HF0
  by_cases ha : rightB a = true
  · rw [codeP_ok a ha]
    have b0 := HBX1.out.tb.1
    have b1 := HBX1.out.tb.2.1
    go_wp2_with fail
    refine (hcb W1).mono ?_
    rintro e W2 ⟨rfl, f2⟩
    have HBX2 := hide (HBX1.out.fr f2)
    have HF2 := hide ((HF1.out.trans f2).mono (Y := fun _ => False) (by simp))
    clear hcb f2 HBX1 HF1 b0 b1
    by_cases hb : rightB b = true
    · rw [codeP_ok b hb]
      have ho : relOk a b = true := by simp [relOk, ha, hb]
      have HV := hide (show relV a b = relN a b by simp [relV, ho])
      have HE := hide (show relE a b = 0 by simp [relE, ho])
      have a0 := HBX2.out.ta.1
      have a1 := HBX2.out.ta.2.1
      have b0 := HBX2.out.tb.1
      have b1 := HBX2.out.tb.2.1
      clear ha hb ho
      by_cases h1 : a.hi < b.lo
      · have HN := hide (show relN a b = 1 by unfold relN; (repeat' split) <;> omega)
        go_wp2
        go_ret2
        exact ⟨by rw [HV.out, HE.out, HN.out]; rfl, HF2.out⟩
      · by_cases h2 : a.hi = b.lo
        · have HN := hide (show relN a b = 2 by unfold relN; (repeat' split) <;> omega)
          have h1' : ¬ b.lo < b.lo := by omega
          go_wp2
          go_ret2
          exact ⟨by rw [HV.out, HE.out, HN.out]; rfl, HF2.out⟩
        · by_cases h3 : b.hi < a.lo
          · have HN := hide (show relN a b = 13 by unfold relN; (repeat' split) <;> omega)
            go_wp2
            go_ret2
            exact ⟨by rw [HV.out, HE.out, HN.out]; rfl, HF2.out⟩
          · by_cases h4 : b.hi = a.lo
            · have HN := hide (show relN a b = 12 by unfold relN; (repeat' split) <;> omega)
              go_wp2
              go_ret2
              exact ⟨by rw [HV.out, HE.out, HN.out]; rfl, HF2.out⟩
            · have HN := hide (show relN a b = relIn a b by unfold relN; (repeat' split) <;> first | rfl | omega)
              have hTB2 := HTB.out.fr HF2.out
              have FD := Fr.drew W2 (fun _ => False)
              have HBD := HBX2.out.fr FD
              have hTBD := hTB2.fr FD
              have HFD := hide ((HF2.out.trans FD).mono (Y := fun _ => False) (by simp))
              have hS0 := And.intro (And.intro HBD.ta.1 HBD.ta.2.1) (And.intro HBD.tb.1 HBD.tb.2.1)
              have hcl := fun W' => AnyG.cmp_Compare_int Tryd.cmp64 a.lo b.lo W'
              have hch := fun W' => AnyG.cmp_Compare_int Tryd.cmp64 a.hi b.hi W'
              change ∀ W', Calls Tryd.prog 15 _ _ _ at hcl
              change ∀ W', Calls Tryd.prog 15 _ _ _ at hch
              go_wp2_with fail
              clear a0 a1 b0 b1
              rcases Int.lt_trichotomy a.lo b.lo with hlo | hlo | hlo2
              · rcases Int.lt_trichotomy a.hi b.hi with hhi | hhi | hhi2
                · have HI := hide (show relIn a b = 3 by unfold relIn; (repeat' split) <;> omega)
                  have hS := And.intro hS0 (hTBD.at 0 3 rfl)
                  have hl2 : Lib.compareInt a.lo b.lo = -1 := by unfold Lib.compareInt; (repeat' split) <;> omega
                  have hh2 : Lib.compareInt a.hi b.hi = -1 := by unfold Lib.compareInt; (repeat' split) <;> omega
                  rw [hl2] at hcl
                  rw [hh2] at hch
                  clear hl2 hh2
                  skip
                  refine wp_region_K (fun _ => true) (fun V => ((V.cell? ⟨gb, 0, none⟩ = some (.int .i64 a.lo) ∧ V.cell? ⟨gb, 1, none⟩ = some (.int .i64 a.hi)) ∧ V.cell? ⟨gb + 1, 0, none⟩ = some (.int .i64 b.lo) ∧ V.cell? ⟨gb + 1, 1, none⟩ = some (.int .i64 b.hi)) ∧ V.cell? ⟨0, 0, none⟩ = some (.int .i64 3)) (by kernel_rfl) ?_
                  refine wpAnyK_takeTo 0 (some 38) (.pointer (some ⟨gb, 0, none⟩)) [] rfl rfl (by kernel_rfl) (by kernel_rfl) (by kernel_rfl) (by kernel_rfl) (fun _ _ _ h => h) hS (Or.inl ⟨rfl, fun w1 hw1 => by go_simp⟩) ?_
                  simp only [Act.put, List.setIfInBounds_toArray, List.set_cons_zero, List.set_cons_succ]
                  refine wpAnyK_takeTo 1 (some 39) (.int .i64 a.lo) [] rfl rfl (by kernel_rfl) (by kernel_rfl) (by kernel_rfl) (by kernel_rfl) (fun _ _ _ h => h) hS (Or.inl ⟨rfl, fun w1 hw1 => by obtain ⟨⟨⟨x0, x1⟩, x2, x3⟩, x4⟩ := hw1; go_simp⟩) ?_
                  simp only [Act.put, List.setIfInBounds_toArray, List.set_cons_zero, List.set_cons_succ]
                  refine wpAnyK_takeTo 2 (some 40) (.pointer (some ⟨gb + 1, 0, none⟩)) [] rfl rfl (by kernel_rfl) (by kernel_rfl) (by kernel_rfl) (by kernel_rfl) (fun _ _ _ h => h) hS (Or.inl ⟨rfl, fun w1 hw1 => by go_simp⟩) ?_
                  simp only [Act.put, List.setIfInBounds_toArray, List.set_cons_zero, List.set_cons_succ]
                  refine wpAnyK_takeTo 3 (some 41) (.int .i64 b.lo) [] rfl rfl (by kernel_rfl) (by kernel_rfl) (by kernel_rfl) (by kernel_rfl) (fun _ _ _ h => h) hS (Or.inl ⟨rfl, fun w1 hw1 => by obtain ⟨⟨⟨x0, x1⟩, x2, x3⟩, x4⟩ := hw1; go_simp⟩) ?_
                  simp only [Act.put, List.setIfInBounds_toArray, List.set_cons_zero, List.set_cons_succ]
                  refine wpAnyK_takeTo 6 (some 44) (.pointer (some ⟨gb, 1, none⟩)) [] rfl rfl (by kernel_rfl) (by kernel_rfl) (by kernel_rfl) (by kernel_rfl) (fun _ _ _ h => h) hS (Or.inl ⟨rfl, fun w1 hw1 => by go_simp⟩) ?_
                  simp only [Act.put, List.setIfInBounds_toArray, List.set_cons_zero, List.set_cons_succ]
                  refine wpAnyK_takeTo 7 (some 45) (.int .i64 a.hi) [] rfl rfl (by kernel_rfl) (by kernel_rfl) (by kernel_rfl) (by kernel_rfl) (fun _ _ _ h => h) hS (Or.inl ⟨rfl, fun w1 hw1 => by obtain ⟨⟨⟨x0, x1⟩, x2, x3⟩, x4⟩ := hw1; go_simp⟩) ?_
                  simp only [Act.put, List.setIfInBounds_toArray, List.set_cons_zero, List.set_cons_succ]
                  refine wpAnyK_takeTo 8 (some 46) (.pointer (some ⟨gb + 1, 1, none⟩)) [] rfl rfl (by kernel_rfl) (by kernel_rfl) (by kernel_rfl) (by kernel_rfl) (fun _ _ _ h => h) hS (Or.inl ⟨rfl, fun w1 hw1 => by go_simp⟩) ?_
                  simp only [Act.put, List.setIfInBounds_toArray, List.set_cons_zero, List.set_cons_succ]
                  refine wpAnyK_takeTo 9 (some 47) (.int .i64 b.hi) [] rfl rfl (by kernel_rfl) (by kernel_rfl) (by kernel_rfl) (by kernel_rfl) (fun _ _ _ h => h) hS (Or.inl ⟨rfl, fun w1 hw1 => by obtain ⟨⟨⟨x0, x1⟩, x2, x3⟩, x4⟩ := hw1; go_simp⟩) ?_
                  simp only [Act.put, List.setIfInBounds_toArray, List.set_cons_zero, List.set_cons_succ]
                  refine wpAnyK_one (i := 4) (by kernel_rfl) rfl rfl ?_
                  refine wp_call_to (some 42) rfl 15 #[.int .i64 a.lo, .int .i64 b.lo] (by go_simp) (hcl W2.drew) ?_
                  rintro e Vx ⟨rfl, hVx⟩
                  obtain rfl := hVx.symm
                  clear hVx
                  refine ⟨_, rfl, fun _ => hS, ?_⟩
                  simp only [Act.put, List.setIfInBounds_toArray, List.set_cons_zero, List.set_cons_succ]
                  refine wpAnyK_takeTo 5 (some 43) (.int .i64 0) [] rfl rfl (by kernel_rfl) (by kernel_rfl) (by kernel_rfl) (by kernel_rfl) (fun _ _ _ h => h) hS (Or.inl ⟨rfl, fun w1 hw1 => by go_simp; decide⟩) ?_
                  simp only [Act.put, List.setIfInBounds_toArray, List.set_cons_zero, List.set_cons_succ]
                  refine wpAnyK_takeTo 12 (some 50) (.pointer (some ⟨0, 0, none⟩)) [] rfl rfl (by kernel_rfl) (by kernel_rfl) (by kernel_rfl) (by kernel_rfl) (fun _ _ _ h => h) hS (Or.inl ⟨rfl, fun w1 hw1 => by go_simp⟩) ?_
                  simp only [Act.put, List.setIfInBounds_toArray, List.set_cons_zero, List.set_cons_succ]
                  refine wpAnyK_one (i := 10) (by kernel_rfl) rfl rfl ?_
                  refine wp_call_to (some 48) rfl 15 #[.int .i64 a.hi, .int .i64 b.hi] (by go_simp) (hch W2.drew) ?_
                  rintro e Vx ⟨rfl, hVx⟩
                  obtain rfl := hVx.symm
                  clear hVx
                  refine ⟨_, rfl, fun _ => hS, ?_⟩
                  simp only [Act.put, List.setIfInBounds_toArray, List.set_cons_zero, List.set_cons_succ]
                  refine wpAnyK_takeTo 11 (some 49) (.int .i64 0) [] rfl rfl (by kernel_rfl) (by kernel_rfl) (by kernel_rfl) (by kernel_rfl) (fun _ _ _ h => h) hS (Or.inl ⟨rfl, fun w1 hw1 => by go_simp; decide⟩) ?_
                  simp only [Act.put, List.setIfInBounds_toArray, List.set_cons_zero, List.set_cons_succ]
                  refine wpAnyK_takeTo 13 (some 51) (.pointer (some ⟨0, 0, none⟩)) [] rfl rfl (by kernel_rfl) (by kernel_rfl) (by kernel_rfl) (by kernel_rfl) (fun _ _ _ h => h) hS (Or.inl ⟨rfl, fun w1 hw1 => by go_simp⟩) ?_
                  simp only [Act.put, List.setIfInBounds_toArray, List.set_cons_zero, List.set_cons_succ]
                  refine wpAnyK_takeTo 14 (some 52) (.int .i64 3) [] rfl rfl (by kernel_rfl) (by kernel_rfl) (by kernel_rfl) (by kernel_rfl) (fun _ _ _ h => h) hS (Or.inl ⟨rfl, fun w1 hw1 => by obtain ⟨⟨⟨x0, x1⟩, x2, x3⟩, x4⟩ := hw1; go_simp⟩) ?_
                  simp only [Act.put, List.setIfInBounds_toArray, List.set_cons_zero, List.set_cons_succ]
                  refine wpAnyK_takeTo 15 (some 4) (.int .i64 3) [] rfl rfl (by kernel_rfl) (by kernel_rfl) (by kernel_rfl) (by kernel_rfl) (fun _ _ _ h => h) hS (Or.inl ⟨rfl, fun w1 hw1 => by go_simp⟩) ?_
                  simp only [Act.put, List.setIfInBounds_toArray, List.set_cons_zero, List.set_cons_succ]
                  refine wpAnyK_takeTo 16 (some 5) (.int .i64 0) [] rfl rfl (by kernel_rfl) (by kernel_rfl) (by kernel_rfl) (by kernel_rfl) (fun _ _ _ h => h) hS (Or.inl ⟨rfl, fun w1 hw1 => by go_simp⟩) ?_
                  simp only [Act.put, List.setIfInBounds_toArray, List.set_cons_zero, List.set_cons_succ]
                  refine wpAnyK_done (by kernel_rfl) ?_ _
                  clear hS hS0 hcl hch hTB2 hTBD HBD FD
                  go_wp2
                  go_ret2
                  exact ⟨by rw [HV.out, HE.out, HN.out, HI.out]; rfl, HFD.out⟩
                · have hhi1 : ¬ a.hi < b.hi := by omega
                  have HI := hide (show relIn a b = 8 by unfold relIn; (repeat' split) <;> omega)
                  have hS := And.intro hS0 (hTBD.at 1 8 rfl)
                  have hl2 : Lib.compareInt a.lo b.lo = -1 := by unfold Lib.compareInt; (repeat' split) <;> omega
                  have hh2 : Lib.compareInt a.hi b.hi = 0 := by unfold Lib.compareInt; (repeat' split) <;> omega
                  rw [hl2] at hcl
                  rw [hh2] at hch
                  clear hl2 hh2
                  skip
                  refine wp_region_K (fun _ => true) (fun V => ((V.cell? ⟨gb, 0, none⟩ = some (.int .i64 a.lo) ∧ V.cell? ⟨gb, 1, none⟩ = some (.int .i64 a.hi)) ∧ V.cell? ⟨gb + 1, 0, none⟩ = some (.int .i64 b.lo) ∧ V.cell? ⟨gb + 1, 1, none⟩ = some (.int .i64 b.hi)) ∧ V.cell? ⟨0, 1, none⟩ = some (.int .i64 8)) (by kernel_rfl) ?_
                  refine wpAnyK_takeTo 0 (some 38) (.pointer (some ⟨gb, 0, none⟩)) [] rfl rfl (by kernel_rfl) (by kernel_rfl) (by kernel_rfl) (by kernel_rfl) (fun _ _ _ h => h) hS (Or.inl ⟨rfl, fun w1 hw1 => by go_simp⟩) ?_
                  simp only [Act.put, List.setIfInBounds_toArray, List.set_cons_zero, List.set_cons_succ]
                  refine wpAnyK_takeTo 1 (some 39) (.int .i64 a.lo) [] rfl rfl (by kernel_rfl) (by kernel_rfl) (by kernel_rfl) (by kernel_rfl) (fun _ _ _ h => h) hS (Or.inl ⟨rfl, fun w1 hw1 => by obtain ⟨⟨⟨x0, x1⟩, x2, x3⟩, x4⟩ := hw1; go_simp⟩) ?_
                  simp only [Act.put, List.setIfInBounds_toArray, List.set_cons_zero, List.set_cons_succ]
                  refine wpAnyK_takeTo 2 (some 40) (.pointer (some ⟨gb + 1, 0, none⟩)) [] rfl rfl (by kernel_rfl) (by kernel_rfl) (by kernel_rfl) (by kernel_rfl) (fun _ _ _ h => h) hS (Or.inl ⟨rfl, fun w1 hw1 => by go_simp⟩) ?_
                  simp only [Act.put, List.setIfInBounds_toArray, List.set_cons_zero, List.set_cons_succ]
                  refine wpAnyK_takeTo 3 (some 41) (.int .i64 b.lo) [] rfl rfl (by kernel_rfl) (by kernel_rfl) (by kernel_rfl) (by kernel_rfl) (fun _ _ _ h => h) hS (Or.inl ⟨rfl, fun w1 hw1 => by obtain ⟨⟨⟨x0, x1⟩, x2, x3⟩, x4⟩ := hw1; go_simp⟩) ?_
                  simp only [Act.put, List.setIfInBounds_toArray, List.set_cons_zero, List.set_cons_succ]
                  refine wpAnyK_takeTo 6 (some 44) (.pointer (some ⟨gb, 1, none⟩)) [] rfl rfl (by kernel_rfl) (by kernel_rfl) (by kernel_rfl) (by kernel_rfl) (fun _ _ _ h => h) hS (Or.inl ⟨rfl, fun w1 hw1 => by go_simp⟩) ?_
                  simp only [Act.put, List.setIfInBounds_toArray, List.set_cons_zero, List.set_cons_succ]
                  refine wpAnyK_takeTo 7 (some 45) (.int .i64 a.hi) [] rfl rfl (by kernel_rfl) (by kernel_rfl) (by kernel_rfl) (by kernel_rfl) (fun _ _ _ h => h) hS (Or.inl ⟨rfl, fun w1 hw1 => by obtain ⟨⟨⟨x0, x1⟩, x2, x3⟩, x4⟩ := hw1; go_simp⟩) ?_
                  simp only [Act.put, List.setIfInBounds_toArray, List.set_cons_zero, List.set_cons_succ]
                  refine wpAnyK_takeTo 8 (some 46) (.pointer (some ⟨gb + 1, 1, none⟩)) [] rfl rfl (by kernel_rfl) (by kernel_rfl) (by kernel_rfl) (by kernel_rfl) (fun _ _ _ h => h) hS (Or.inl ⟨rfl, fun w1 hw1 => by go_simp⟩) ?_
                  simp only [Act.put, List.setIfInBounds_toArray, List.set_cons_zero, List.set_cons_succ]
                  refine wpAnyK_takeTo 9 (some 47) (.int .i64 b.hi) [] rfl rfl (by kernel_rfl) (by kernel_rfl) (by kernel_rfl) (by kernel_rfl) (fun _ _ _ h => h) hS (Or.inl ⟨rfl, fun w1 hw1 => by obtain ⟨⟨⟨x0, x1⟩, x2, x3⟩, x4⟩ := hw1; go_simp⟩) ?_
                  simp only [Act.put, List.setIfInBounds_toArray, List.set_cons_zero, List.set_cons_succ]
                  refine wpAnyK_one (i := 4) (by kernel_rfl) rfl rfl ?_
                  refine wp_call_to (some 42) rfl 15 #[.int .i64 a.lo, .int .i64 b.lo] (by go_simp) (hcl W2.drew) ?_
                  rintro e Vx ⟨rfl, hVx⟩
                  obtain rfl := hVx.symm
                  clear hVx
                  refine ⟨_, rfl, fun _ => hS, ?_⟩
                  simp only [Act.put, List.setIfInBounds_toArray, List.set_cons_zero, List.set_cons_succ]
                  refine wpAnyK_takeTo 5 (some 43) (.int .i64 0) [] rfl rfl (by kernel_rfl) (by kernel_rfl) (by kernel_rfl) (by kernel_rfl) (fun _ _ _ h => h) hS (Or.inl ⟨rfl, fun w1 hw1 => by go_simp; decide⟩) ?_
                  simp only [Act.put, List.setIfInBounds_toArray, List.set_cons_zero, List.set_cons_succ]
                  refine wpAnyK_takeTo 12 (some 50) (.pointer (some ⟨0, 0, none⟩)) [] rfl rfl (by kernel_rfl) (by kernel_rfl) (by kernel_rfl) (by kernel_rfl) (fun _ _ _ h => h) hS (Or.inl ⟨rfl, fun w1 hw1 => by go_simp⟩) ?_
                  simp only [Act.put, List.setIfInBounds_toArray, List.set_cons_zero, List.set_cons_succ]
                  refine wpAnyK_one (i := 10) (by kernel_rfl) rfl rfl ?_
                  refine wp_call_to (some 48) rfl 15 #[.int .i64 a.hi, .int .i64 b.hi] (by go_simp) (hch W2.drew) ?_
                  rintro e Vx ⟨rfl, hVx⟩
                  obtain rfl := hVx.symm
                  clear hVx
                  refine ⟨_, rfl, fun _ => hS, ?_⟩
                  simp only [Act.put, List.setIfInBounds_toArray, List.set_cons_zero, List.set_cons_succ]
                  refine wpAnyK_takeTo 11 (some 49) (.int .i64 1) [] rfl rfl (by kernel_rfl) (by kernel_rfl) (by kernel_rfl) (by kernel_rfl) (fun _ _ _ h => h) hS (Or.inl ⟨rfl, fun w1 hw1 => by go_simp; decide⟩) ?_
                  simp only [Act.put, List.setIfInBounds_toArray, List.set_cons_zero, List.set_cons_succ]
                  refine wpAnyK_takeTo 13 (some 51) (.pointer (some ⟨0, 1, none⟩)) [] rfl rfl (by kernel_rfl) (by kernel_rfl) (by kernel_rfl) (by kernel_rfl) (fun _ _ _ h => h) hS (Or.inl ⟨rfl, fun w1 hw1 => by go_simp⟩) ?_
                  simp only [Act.put, List.setIfInBounds_toArray, List.set_cons_zero, List.set_cons_succ]
                  refine wpAnyK_takeTo 14 (some 52) (.int .i64 8) [] rfl rfl (by kernel_rfl) (by kernel_rfl) (by kernel_rfl) (by kernel_rfl) (fun _ _ _ h => h) hS (Or.inl ⟨rfl, fun w1 hw1 => by obtain ⟨⟨⟨x0, x1⟩, x2, x3⟩, x4⟩ := hw1; go_simp⟩) ?_
                  simp only [Act.put, List.setIfInBounds_toArray, List.set_cons_zero, List.set_cons_succ]
                  refine wpAnyK_takeTo 15 (some 4) (.int .i64 8) [] rfl rfl (by kernel_rfl) (by kernel_rfl) (by kernel_rfl) (by kernel_rfl) (fun _ _ _ h => h) hS (Or.inl ⟨rfl, fun w1 hw1 => by go_simp⟩) ?_
                  simp only [Act.put, List.setIfInBounds_toArray, List.set_cons_zero, List.set_cons_succ]
                  refine wpAnyK_takeTo 16 (some 5) (.int .i64 0) [] rfl rfl (by kernel_rfl) (by kernel_rfl) (by kernel_rfl) (by kernel_rfl) (fun _ _ _ h => h) hS (Or.inl ⟨rfl, fun w1 hw1 => by go_simp⟩) ?_
                  simp only [Act.put, List.setIfInBounds_toArray, List.set_cons_zero, List.set_cons_succ]
                  refine wpAnyK_done (by kernel_rfl) ?_ _
                  clear hS hS0 hcl hch hTB2 hTBD HBD FD
                  go_wp2
                  go_ret2
                  exact ⟨by rw [HV.out, HE.out, HN.out, HI.out]; rfl, HFD.out⟩
                · have hhi : ¬ a.hi < b.hi ∧ ¬ a.hi = b.hi := by omega
                  have HI := hide (show relIn a b = 9 by unfold relIn; (repeat' split) <;> omega)
                  have hS := And.intro hS0 (hTBD.at 2 9 rfl)
                  have hl2 : Lib.compareInt a.lo b.lo = -1 := by unfold Lib.compareInt; (repeat' split) <;> omega
                  have hh2 : Lib.compareInt a.hi b.hi = 1 := by unfold Lib.compareInt; (repeat' split) <;> omega
                  rw [hl2] at hcl
                  rw [hh2] at hch
                  clear hl2 hh2
                  skip
                  refine wp_region_K (fun _ => true) (fun V => ((V.cell? ⟨gb, 0, none⟩ = some (.int .i64 a.lo) ∧ V.cell? ⟨gb, 1, none⟩ = some (.int .i64 a.hi)) ∧ V.cell? ⟨gb + 1, 0, none⟩ = some (.int .i64 b.lo) ∧ V.cell? ⟨gb + 1, 1, none⟩ = some (.int .i64 b.hi)) ∧ V.cell? ⟨0, 2, none⟩ = some (.int .i64 9)) (by kernel_rfl) ?_
                  refine wpAnyK_takeTo 0 (some 38) (.pointer (some ⟨gb, 0, none⟩)) [] rfl rfl (by kernel_rfl) (by kernel_rfl) (by kernel_rfl) (by kernel_rfl) (fun _ _ _ h => h) hS (Or.inl ⟨rfl, fun w1 hw1 => by go_simp⟩) ?_
                  simp only [Act.put, List.setIfInBounds_toArray, List.set_cons_zero, List.set_cons_succ]
                  refine wpAnyK_takeTo 1 (some 39) (.int .i64 a.lo) [] rfl rfl (by kernel_rfl) (by kernel_rfl) (by kernel_rfl) (by kernel_rfl) (fun _ _ _ h => h) hS (Or.inl ⟨rfl, fun w1 hw1 => by obtain ⟨⟨⟨x0, x1⟩, x2, x3⟩, x4⟩ := hw1; go_simp⟩) ?_
                  simp only [Act.put, List.setIfInBounds_toArray, List.set_cons_zero, List.set_cons_succ]
                  refine wpAnyK_takeTo 2 (some 40) (.pointer (some ⟨gb + 1, 0, none⟩)) [] rfl rfl (by kernel_rfl) (by kernel_rfl) (by kernel_rfl) (by kernel_rfl) (fun _ _ _ h => h) hS (Or.inl ⟨rfl, fun w1 hw1 => by go_simp⟩) ?_
                  simp only [Act.put, List.setIfInBounds_toArray, List.set_cons_zero, List.set_cons_succ]
                  refine wpAnyK_takeTo 3 (some 41) (.int .i64 b.lo) [] rfl rfl (by kernel_rfl) (by kernel_rfl) (by kernel_rfl) (by kernel_rfl) (fun _ _ _ h => h) hS (Or.inl ⟨rfl, fun w1 hw1 => by obtain ⟨⟨⟨x0, x1⟩, x2, x3⟩, x4⟩ := hw1; go_simp⟩) ?_
                  simp only [Act.put, List.setIfInBounds_toArray, List.set_cons_zero, List.set_cons_succ]
                  refine wpAnyK_takeTo 6 (some 44) (.pointer (some ⟨gb, 1, none⟩)) [] rfl rfl (by kernel_rfl) (by kernel_rfl) (by kernel_rfl) (by kernel_rfl) (fun _ _ _ h => h) hS (Or.inl ⟨rfl, fun w1 hw1 => by go_simp⟩) ?_
                  simp only [Act.put, List.setIfInBounds_toArray, List.set_cons_zero, List.set_cons_succ]
                  refine wpAnyK_takeTo 7 (some 45) (.int .i64 a.hi) [] rfl rfl (by kernel_rfl) (by kernel_rfl) (by kernel_rfl) (by kernel_rfl) (fun _ _ _ h => h) hS (Or.inl ⟨rfl, fun w1 hw1 => by obtain ⟨⟨⟨x0, x1⟩, x2, x3⟩, x4⟩ := hw1; go_simp⟩) ?_
                  simp only [Act.put, List.setIfInBounds_toArray, List.set_cons_zero, List.set_cons_succ]
                  refine wpAnyK_takeTo 8 (some 46) (.pointer (some ⟨gb + 1, 1, none⟩)) [] rfl rfl (by kernel_rfl) (by kernel_rfl) (by kernel_rfl) (by kernel_rfl) (fun _ _ _ h => h) hS (Or.inl ⟨rfl, fun w1 hw1 => by go_simp⟩) ?_
                  simp only [Act.put, List.setIfInBounds_toArray, List.set_cons_zero, List.set_cons_succ]
                  refine wpAnyK_takeTo 9 (some 47) (.int .i64 b.hi) [] rfl rfl (by kernel_rfl) (by kernel_rfl) (by kernel_rfl) (by kernel_rfl) (fun _ _ _ h => h) hS (Or.inl ⟨rfl, fun w1 hw1 => by obtain ⟨⟨⟨x0, x1⟩, x2, x3⟩, x4⟩ := hw1; go_simp⟩) ?_
                  simp only [Act.put, List.setIfInBounds_toArray, List.set_cons_zero, List.set_cons_succ]
                  refine wpAnyK_one (i := 4) (by kernel_rfl) rfl rfl ?_
                  refine wp_call_to (some 42) rfl 15 #[.int .i64 a.lo, .int .i64 b.lo] (by go_simp) (hcl W2.drew) ?_
                  rintro e Vx ⟨rfl, hVx⟩
                  obtain rfl := hVx.symm
                  clear hVx
                  refine ⟨_, rfl, fun _ => hS, ?_⟩
                  simp only [Act.put, List.setIfInBounds_toArray, List.set_cons_zero, List.set_cons_succ]
                  refine wpAnyK_takeTo 5 (some 43) (.int .i64 0) [] rfl rfl (by kernel_rfl) (by kernel_rfl) (by kernel_rfl) (by kernel_rfl) (fun _ _ _ h => h) hS (Or.inl ⟨rfl, fun w1 hw1 => by go_simp; decide⟩) ?_
                  simp only [Act.put, List.setIfInBounds_toArray, List.set_cons_zero, List.set_cons_succ]
                  refine wpAnyK_takeTo 12 (some 50) (.pointer (some ⟨0, 0, none⟩)) [] rfl rfl (by kernel_rfl) (by kernel_rfl) (by kernel_rfl) (by kernel_rfl) (fun _ _ _ h => h) hS (Or.inl ⟨rfl, fun w1 hw1 => by go_simp⟩) ?_
                  simp only [Act.put, List.setIfInBounds_toArray, List.set_cons_zero, List.set_cons_succ]
                  refine wpAnyK_one (i := 10) (by kernel_rfl) rfl rfl ?_
                  refine wp_call_to (some 48) rfl 15 #[.int .i64 a.hi, .int .i64 b.hi] (by go_simp) (hch W2.drew) ?_
                  rintro e Vx ⟨rfl, hVx⟩
                  obtain rfl := hVx.symm
                  clear hVx
                  refine ⟨_, rfl, fun _ => hS, ?_⟩
                  simp only [Act.put, List.setIfInBounds_toArray, List.set_cons_zero, List.set_cons_succ]
                  refine wpAnyK_takeTo 11 (some 49) (.int .i64 2) [] rfl rfl (by kernel_rfl) (by kernel_rfl) (by kernel_rfl) (by kernel_rfl) (fun _ _ _ h => h) hS (Or.inl ⟨rfl, fun w1 hw1 => by go_simp; decide⟩) ?_
                  simp only [Act.put, List.setIfInBounds_toArray, List.set_cons_zero, List.set_cons_succ]
                  refine wpAnyK_takeTo 13 (some 51) (.pointer (some ⟨0, 2, none⟩)) [] rfl rfl (by kernel_rfl) (by kernel_rfl) (by kernel_rfl) (by kernel_rfl) (fun _ _ _ h => h) hS (Or.inl ⟨rfl, fun w1 hw1 => by go_simp⟩) ?_
                  simp only [Act.put, List.setIfInBounds_toArray, List.set_cons_zero, List.set_cons_succ]
                  refine wpAnyK_takeTo 14 (some 52) (.int .i64 9) [] rfl rfl (by kernel_rfl) (by kernel_rfl) (by kernel_rfl) (by kernel_rfl) (fun _ _ _ h => h) hS (Or.inl ⟨rfl, fun w1 hw1 => by obtain ⟨⟨⟨x0, x1⟩, x2, x3⟩, x4⟩ := hw1; go_simp⟩) ?_
                  simp only [Act.put, List.setIfInBounds_toArray, List.set_cons_zero, List.set_cons_succ]
                  refine wpAnyK_takeTo 15 (some 4) (.int .i64 9) [] rfl rfl (by kernel_rfl) (by kernel_rfl) (by kernel_rfl) (by kernel_rfl) (fun _ _ _ h => h) hS (Or.inl ⟨rfl, fun w1 hw1 => by go_simp⟩) ?_
                  simp only [Act.put, List.setIfInBounds_toArray, List.set_cons_zero, List.set_cons_succ]
                  refine wpAnyK_takeTo 16 (some 5) (.int .i64 0) [] rfl rfl (by kernel_rfl) (by kernel_rfl) (by kernel_rfl) (by kernel_rfl) (fun _ _ _ h => h) hS (Or.inl ⟨rfl, fun w1 hw1 => by go_simp⟩) ?_
                  simp only [Act.put, List.setIfInBounds_toArray, List.set_cons_zero, List.set_cons_succ]
                  refine wpAnyK_done (by kernel_rfl) ?_ _
                  clear hS hS0 hcl hch hTB2 hTBD HBD FD
                  go_wp2
                  go_ret2
                  exact ⟨by rw [HV.out, HE.out, HN.out, HI.out]; rfl, HFD.out⟩
              · have hlo1 : ¬ a.lo < b.lo := by omega
                rcases Int.lt_trichotomy a.hi b.hi with hhi | hhi | hhi2
                · have HI := hide (show relIn a b = 4 by unfold relIn; (repeat' split) <;> omega)
                  have hS := And.intro hS0 (hTBD.at 3 4 rfl)
                  have hl2 : Lib.compareInt a.lo b.lo = 0 := by unfold Lib.compareInt; (repeat' split) <;> omega
                  have hh2 : Lib.compareInt a.hi b.hi = -1 := by unfold Lib.compareInt; (repeat' split) <;> omega
                  rw [hl2] at hcl
                  rw [hh2] at hch
                  clear hl2 hh2
                  skip
                  refine wp_region_K (fun _ => true) (fun V => ((V.cell? ⟨gb, 0, none⟩ = some (.int .i64 a.lo) ∧ V.cell? ⟨gb, 1, none⟩ = some (.int .i64 a.hi)) ∧ V.cell? ⟨gb + 1, 0, none⟩ = some (.int .i64 b.lo) ∧ V.cell? ⟨gb + 1, 1, none⟩ = some (.int .i64 b.hi)) ∧ V.cell? ⟨0, 3, none⟩ = some (.int .i64 4)) (by kernel_rfl) ?_
                  refine wpAnyK_takeTo 0 (some 38) (.pointer (some ⟨gb, 0, none⟩)) [] rfl rfl (by kernel_rfl) (by kernel_rfl) (by kernel_rfl) (by kernel_rfl) (fun _ _ _ h => h) hS (Or.inl ⟨rfl, fun w1 hw1 => by go_simp⟩) ?_
                  simp only [Act.put, List.setIfInBounds_toArray, List.set_cons_zero, List.set_cons_succ]
                  refine wpAnyK_takeTo 1 (some 39) (.int .i64 a.lo) [] rfl rfl (by kernel_rfl) (by kernel_rfl) (by kernel_rfl) (by kernel_rfl) (fun _ _ _ h => h) hS (Or.inl ⟨rfl, fun w1 hw1 => by obtain ⟨⟨⟨x0, x1⟩, x2, x3⟩, x4⟩ := hw1; go_simp⟩) ?_
                  simp only [Act.put, List.setIfInBounds_toArray, List.set_cons_zero, List.set_cons_succ]
                  refine wpAnyK_takeTo 2 (some 40) (.pointer (some ⟨gb + 1, 0, none⟩)) [] rfl rfl (by kernel_rfl) (by kernel_rfl) (by kernel_rfl) (by kernel_rfl) (fun _ _ _ h => h) hS (Or.inl ⟨rfl, fun w1 hw1 => by go_simp⟩) ?_
                  simp only [Act.put, List.setIfInBounds_toArray, List.set_cons_zero, List.set_cons_succ]
                  refine wpAnyK_takeTo 3 (some 41) (.int .i64 b.lo) [] rfl rfl (by kernel_rfl) (by kernel_rfl) (by kernel_rfl) (by kernel_rfl) (fun _ _ _ h => h) hS (Or.inl ⟨rfl, fun w1 hw1 => by obtain ⟨⟨⟨x0, x1⟩, x2, x3⟩, x4⟩ := hw1; go_simp⟩) ?_
                  simp only [Act.put, List.setIfInBounds_toArray, List.set_cons_zero, List.set_cons_succ]
                  refine wpAnyK_takeTo 6 (some 44) (.pointer (some ⟨gb, 1, none⟩)) [] rfl rfl (by kernel_rfl) (by kernel_rfl) (by kernel_rfl) (by kernel_rfl) (fun _ _ _ h => h) hS (Or.inl ⟨rfl, fun w1 hw1 => by go_simp⟩) ?_
                  simp only [Act.put, List.setIfInBounds_toArray, List.set_cons_zero, List.set_cons_succ]
                  refine wpAnyK_takeTo 7 (some 45) (.int .i64 a.hi) [] rfl rfl (by kernel_rfl) (by kernel_rfl) (by kernel_rfl) (by kernel_rfl) (fun _ _ _ h => h) hS (Or.inl ⟨rfl, fun w1 hw1 => by obtain ⟨⟨⟨x0, x1⟩, x2, x3⟩, x4⟩ := hw1; go_simp⟩) ?_
                  simp only [Act.put, List.setIfInBounds_toArray, List.set_cons_zero, List.set_cons_succ]
                  refine wpAnyK_takeTo 8 (some 46) (.pointer (some ⟨gb + 1, 1, none⟩)) [] rfl rfl (by kernel_rfl) (by kernel_rfl) (by kernel_rfl) (by kernel_rfl) (fun _ _ _ h => h) hS (Or.inl ⟨rfl, fun w1 hw1 => by go_simp⟩) ?_
                  simp only [Act.put, List.setIfInBounds_toArray, List.set_cons_zero, List.set_cons_succ]
                  refine wpAnyK_takeTo 9 (some 47) (.int .i64 b.hi) [] rfl rfl (by kernel_rfl) (by kernel_rfl) (by kernel_rfl) (by kernel_rfl) (fun _ _ _ h => h) hS (Or.inl ⟨rfl, fun w1 hw1 => by obtain ⟨⟨⟨x0, x1⟩, x2, x3⟩, x4⟩ := hw1; go_simp⟩) ?_
                  simp only [Act.put, List.setIfInBounds_toArray, List.set_cons_zero, List.set_cons_succ]
                  refine wpAnyK_one (i := 4) (by kernel_rfl) rfl rfl ?_
                  refine wp_call_to (some 42) rfl 15 #[.int .i64 a.lo, .int .i64 b.lo] (by go_simp) (hcl W2.drew) ?_
                  rintro e Vx ⟨rfl, hVx⟩
                  obtain rfl := hVx.symm
                  clear hVx
                  refine ⟨_, rfl, fun _ => hS, ?_⟩
                  simp only [Act.put, List.setIfInBounds_toArray, List.set_cons_zero, List.set_cons_succ]
                  refine wpAnyK_takeTo 5 (some 43) (.int .i64 1) [] rfl rfl (by kernel_rfl) (by kernel_rfl) (by kernel_rfl) (by kernel_rfl) (fun _ _ _ h => h) hS (Or.inl ⟨rfl, fun w1 hw1 => by go_simp; decide⟩) ?_
                  simp only [Act.put, List.setIfInBounds_toArray, List.set_cons_zero, List.set_cons_succ]
                  refine wpAnyK_takeTo 12 (some 50) (.pointer (some ⟨0, 3, none⟩)) [] rfl rfl (by kernel_rfl) (by kernel_rfl) (by kernel_rfl) (by kernel_rfl) (fun _ _ _ h => h) hS (Or.inl ⟨rfl, fun w1 hw1 => by go_simp⟩) ?_
                  simp only [Act.put, List.setIfInBounds_toArray, List.set_cons_zero, List.set_cons_succ]
                  refine wpAnyK_one (i := 10) (by kernel_rfl) rfl rfl ?_
                  refine wp_call_to (some 48) rfl 15 #[.int .i64 a.hi, .int .i64 b.hi] (by go_simp) (hch W2.drew) ?_
                  rintro e Vx ⟨rfl, hVx⟩
                  obtain rfl := hVx.symm
                  clear hVx
                  refine ⟨_, rfl, fun _ => hS, ?_⟩
                  simp only [Act.put, List.setIfInBounds_toArray, List.set_cons_zero, List.set_cons_succ]
                  refine wpAnyK_takeTo 11 (some 49) (.int .i64 0) [] rfl rfl (by kernel_rfl) (by kernel_rfl) (by kernel_rfl) (by kernel_rfl) (fun _ _ _ h => h) hS (Or.inl ⟨rfl, fun w1 hw1 => by go_simp; decide⟩) ?_
                  simp only [Act.put, List.setIfInBounds_toArray, List.set_cons_zero, List.set_cons_succ]
                  refine wpAnyK_takeTo 13 (some 51) (.pointer (some ⟨0, 3, none⟩)) [] rfl rfl (by kernel_rfl) (by kernel_rfl) (by kernel_rfl) (by kernel_rfl) (fun _ _ _ h => h) hS (Or.inl ⟨rfl, fun w1 hw1 => by go_simp⟩) ?_
                  simp only [Act.put, List.setIfInBounds_toArray, List.set_cons_zero, List.set_cons_succ]
                  refine wpAnyK_takeTo 14 (some 52) (.int .i64 4) [] rfl rfl (by kernel_rfl) (by kernel_rfl) (by kernel_rfl) (by kernel_rfl) (fun _ _ _ h => h) hS (Or.inl ⟨rfl, fun w1 hw1 => by obtain ⟨⟨⟨x0, x1⟩, x2, x3⟩, x4⟩ := hw1; go_simp⟩) ?_
                  simp only [Act.put, List.setIfInBounds_toArray, List.set_cons_zero, List.set_cons_succ]
                  refine wpAnyK_takeTo 15 (some 4) (.int .i64 4) [] rfl rfl (by kernel_rfl) (by kernel_rfl) (by kernel_rfl) (by kernel_rfl) (fun _ _ _ h => h) hS (Or.inl ⟨rfl, fun w1 hw1 => by go_simp⟩) ?_
                  simp only [Act.put, List.setIfInBounds_toArray, List.set_cons_zero, List.set_cons_succ]
                  refine wpAnyK_takeTo 16 (some 5) (.int .i64 0) [] rfl rfl (by kernel_rfl) (by kernel_rfl) (by kernel_rfl) (by kernel_rfl) (fun _ _ _ h => h) hS (Or.inl ⟨rfl, fun w1 hw1 => by go_simp⟩) ?_
                  simp only [Act.put, List.setIfInBounds_toArray, List.set_cons_zero, List.set_cons_succ]
                  refine wpAnyK_done (by kernel_rfl) ?_ _
                  clear hS hS0 hcl hch hTB2 hTBD HBD FD
                  go_wp2
                  go_ret2
                  exact ⟨by rw [HV.out, HE.out, HN.out, HI.out]; rfl, HFD.out⟩
                · have hhi1 : ¬ a.hi < b.hi := by omega
                  have HI := hide (show relIn a b = 7 by unfold relIn; (repeat' split) <;> omega)
                  have hS := And.intro hS0 (hTBD.at 4 7 rfl)
                  have hl2 : Lib.compareInt a.lo b.lo = 0 := by unfold Lib.compareInt; (repeat' split) <;> omega
                  have hh2 : Lib.compareInt a.hi b.hi = 0 := by unfold Lib.compareInt; (repeat' split) <;> omega
                  rw [hl2] at hcl
                  rw [hh2] at hch
                  clear hl2 hh2
                  skip
                  refine wp_region_K (fun _ => true) (fun V => ((V.cell? ⟨gb, 0, none⟩ = some (.int .i64 a.lo) ∧ V.cell? ⟨gb, 1, none⟩ = some (.int .i64 a.hi)) ∧ V.cell? ⟨gb + 1, 0, none⟩ = some (.int .i64 b.lo) ∧ V.cell? ⟨gb + 1, 1, none⟩ = some (.int .i64 b.hi)) ∧ V.cell? ⟨0, 4, none⟩ = some (.int .i64 7)) (by kernel_rfl) ?_
                  refine wpAnyK_takeTo 0 (some 38) (.pointer (some ⟨gb, 0, none⟩)) [] rfl rfl (by kernel_rfl) (by kernel_rfl) (by kernel_rfl) (by kernel_rfl) (fun _ _ _ h => h) hS (Or.inl ⟨rfl, fun w1 hw1 => by go_simp⟩) ?_
                  simp only [Act.put, List.setIfInBounds_toArray, List.set_cons_zero, List.set_cons_succ]
                  refine wpAnyK_takeTo 1 (some 39) (.int .i64 a.lo) [] rfl rfl (by kernel_rfl) (by kernel_rfl) (by kernel_rfl) (by kernel_rfl) (fun _ _ _ h => h) hS (Or.inl ⟨rfl, fun w1 hw1 => by obtain ⟨⟨⟨x0, x1⟩, x2, x3⟩, x4⟩ := hw1; go_simp⟩) ?_
                  simp only [Act.put, List.setIfInBounds_toArray, List.set_cons_zero, List.set_cons_succ]
                  refine wpAnyK_takeTo 2 (some 40) (.pointer (some ⟨gb + 1, 0, none⟩)) [] rfl rfl (by kernel_rfl) (by kernel_rfl) (by kernel_rfl) (by kernel_rfl) (fun _ _ _ h => h) hS (Or.inl ⟨rfl, fun w1 hw1 => by go_simp⟩) ?_
                  simp only [Act.put, List.setIfInBounds_toArray, List.set_cons_zero, List.set_cons_succ]
                  refine wpAnyK_takeTo 3 (some 41) (.int .i64 b.lo) [] rfl rfl (by kernel_rfl) (by kernel_rfl) (by kernel_rfl) (by kernel_rfl) (fun _ _ _ h => h) hS (Or.inl ⟨rfl, fun w1 hw1 => by obtain ⟨⟨⟨x0, x1⟩, x2, x3⟩, x4⟩ := hw1; go_simp⟩) ?_
                  simp only [Act.put, List.setIfInBounds_toArray, List.set_cons_zero, List.set_cons_succ]
                  refine wpAnyK_takeTo 6 (some 44) (.pointer (some ⟨gb, 1, none⟩)) [] rfl rfl (by kernel_rfl) (by kernel_rfl) (by kernel_rfl) (by kernel_rfl) (fun _ _ _ h => h) hS (Or.inl ⟨rfl, fun w1 hw1 => by go_simp⟩) ?_
                  simp only [Act.put, List.setIfInBounds_toArray, List.set_cons_zero, List.set_cons_succ]
                  refine wpAnyK_takeTo 7 (some 45) (.int .i64 a.hi) [] rfl rfl (by kernel_rfl) (by kernel_rfl) (by kernel_rfl) (by kernel_rfl) (fun _ _ _ h => h) hS (Or.inl ⟨rfl, fun w1 hw1 => by obtain ⟨⟨⟨x0, x1⟩, x2, x3⟩, x4⟩ := hw1; go_simp⟩) ?_
                  simp only [Act.put, List.setIfInBounds_toArray, List.set_cons_zero, List.set_cons_succ]
                  refine wpAnyK_takeTo 8 (some 46) (.pointer (some ⟨gb + 1, 1, none⟩)) [] rfl rfl (by kernel_rfl) (by kernel_rfl) (by kernel_rfl) (by kernel_rfl) (fun _ _ _ h => h) hS (Or.inl ⟨rfl, fun w1 hw1 => by go_simp⟩) ?_
                  simp only [Act.put, List.setIfInBounds_toArray, List.set_cons_zero, List.set_cons_succ]
                  refine wpAnyK_takeTo 9 (some 47) (.int .i64 b.hi) [] rfl rfl (by kernel_rfl) (by kernel_rfl) (by kernel_rfl) (by kernel_rfl) (fun _ _ _ h => h) hS (Or.inl ⟨rfl, fun w1 hw1 => by obtain ⟨⟨⟨x0, x1⟩, x2, x3⟩, x4⟩ := hw1; go_simp⟩) ?_
                  simp only [Act.put, List.setIfInBounds_toArray, List.set_cons_zero, List.set_cons_succ]
                  refine wpAnyK_one (i := 4) (by kernel_rfl) rfl rfl ?_
                  refine wp_call_to (some 42) rfl 15 #[.int .i64 a.lo, .int .i64 b.lo] (by go_simp) (hcl W2.drew) ?_
                  rintro e Vx ⟨rfl, hVx⟩
                  obtain rfl := hVx.symm
                  clear hVx
                  refine ⟨_, rfl, fun _ => hS, ?_⟩
                  simp only [Act.put, List.setIfInBounds_toArray, List.set_cons_zero, List.set_cons_succ]
                  refine wpAnyK_takeTo 5 (some 43) (.int .i64 1) [] rfl rfl (by kernel_rfl) (by kernel_rfl) (by kernel_rfl) (by kernel_rfl) (fun _ _ _ h => h) hS (Or.inl ⟨rfl, fun w1 hw1 => by go_simp; decide⟩) ?_
                  simp only [Act.put, List.setIfInBounds_toArray, List.set_cons_zero, List.set_cons_succ]
                  refine wpAnyK_takeTo 12 (some 50) (.pointer (some ⟨0, 3, none⟩)) [] rfl rfl (by kernel_rfl) (by kernel_rfl) (by kernel_rfl) (by kernel_rfl) (fun _ _ _ h => h) hS (Or.inl ⟨rfl, fun w1 hw1 => by go_simp⟩) ?_
                  simp only [Act.put, List.setIfInBounds_toArray, List.set_cons_zero, List.set_cons_succ]
                  refine wpAnyK_one (i := 10) (by kernel_rfl) rfl rfl ?_
                  refine wp_call_to (some 48) rfl 15 #[.int .i64 a.hi, .int .i64 b.hi] (by go_simp) (hch W2.drew) ?_
                  rintro e Vx ⟨rfl, hVx⟩
                  obtain rfl := hVx.symm
                  clear hVx
                  refine ⟨_, rfl, fun _ => hS, ?_⟩
                  simp only [Act.put, List.setIfInBounds_toArray, List.set_cons_zero, List.set_cons_succ]
                  refine wpAnyK_takeTo 11 (some 49) (.int .i64 1) [] rfl rfl (by kernel_rfl) (by kernel_rfl) (by kernel_rfl) (by kernel_rfl) (fun _ _ _ h => h) hS (Or.inl ⟨rfl, fun w1 hw1 => by go_simp; decide⟩) ?_
                  simp only [Act.put, List.setIfInBounds_toArray, List.set_cons_zero, List.set_cons_succ]
                  refine wpAnyK_takeTo 13 (some 51) (.pointer (some ⟨0, 4, none⟩)) [] rfl rfl (by kernel_rfl) (by kernel_rfl) (by kernel_rfl) (by kernel_rfl) (fun _ _ _ h => h) hS (Or.inl ⟨rfl, fun w1 hw1 => by go_simp⟩) ?_
                  simp only [Act.put, List.setIfInBounds_toArray, List.set_cons_zero, List.set_cons_succ]
                  refine wpAnyK_takeTo 14 (some 52) (.int .i64 7) [] rfl rfl (by kernel_rfl) (by kernel_rfl) (by kernel_rfl) (by kernel_rfl) (fun _ _ _ h => h) hS (Or.inl ⟨rfl, fun w1 hw1 => by obtain ⟨⟨⟨x0, x1⟩, x2, x3⟩, x4⟩ := hw1; go_simp⟩) ?_
                  simp only [Act.put, List.setIfInBounds_toArray, List.set_cons_zero, List.set_cons_succ]
                  refine wpAnyK_takeTo 15 (some 4) (.int .i64 7) [] rfl rfl (by kernel_rfl) (by kernel_rfl) (by kernel_rfl) (by kernel_rfl) (fun _ _ _ h => h) hS (Or.inl ⟨rfl, fun w1 hw1 => by go_simp⟩) ?_
                  simp only [Act.put, List.setIfInBounds_toArray, List.set_cons_zero, List.set_cons_succ]
                  refine wpAnyK_takeTo 16 (some 5) (.int .i64 0) [] rfl rfl (by kernel_rfl) (by kernel_rfl) (by kernel_rfl) (by kernel_rfl) (fun _ _ _ h => h) hS (Or.inl ⟨rfl, fun w1 hw1 => by go_simp⟩) ?_
                  simp only [Act.put, List.setIfInBounds_toArray, List.set_cons_zero, List.set_cons_succ]
                  refine wpAnyK_done (by kernel_rfl) ?_ _
                  clear hS hS0 hcl hch hTB2 hTBD HBD FD
                  go_wp2
                  go_ret2
                  exact ⟨by rw [HV.out, HE.out, HN.out, HI.out]; rfl, HFD.out⟩
                · have hhi : ¬ a.hi < b.hi ∧ ¬ a.hi = b.hi := by omega
                  have HI := hide (show relIn a b = 10 by unfold relIn; (repeat' split) <;> omega)
                  have hS := And.intro hS0 (hTBD.at 5 10 rfl)
                  have hl2 : Lib.compareInt a.lo b.lo = 0 := by unfold Lib.compareInt; (repeat' split) <;> omega
                  have hh2 : Lib.compareInt a.hi b.hi = 1 := by unfold Lib.compareInt; (repeat' split) <;> omega
                  rw [hl2] at hcl
                  rw [hh2] at hch
                  clear hl2 hh2
                  skip
                  refine wp_region_K (fun _ => true) (fun V => ((V.cell? ⟨gb, 0, none⟩ = some (.int .i64 a.lo) ∧ V.cell? ⟨gb, 1, none⟩ = some (.int .i64 a.hi)) ∧ V.cell? ⟨gb + 1, 0, none⟩ = some (.int .i64 b.lo) ∧ V.cell? ⟨gb + 1, 1, none⟩ = some (.int .i64 b.hi)) ∧ V.cell? ⟨0, 5, none⟩ = some (.int .i64 10)) (by kernel_rfl) ?_
                  refine wpAnyK_takeTo 0 (some 38) (.pointer (some ⟨gb, 0, none⟩)) [] rfl rfl (by kernel_rfl) (by kernel_rfl) (by kernel_rfl) (by kernel_rfl) (fun _ _ _ h => h) hS (Or.inl ⟨rfl, fun w1 hw1 => by go_simp⟩) ?_
                  simp only [Act.put, List.setIfInBounds_toArray, List.set_cons_zero, List.set_cons_succ]
                  refine wpAnyK_takeTo 1 (some 39) (.int .i64 a.lo) [] rfl rfl (by kernel_rfl) (by kernel_rfl) (by kernel_rfl) (by kernel_rfl) (fun _ _ _ h => h) hS (Or.inl ⟨rfl, fun w1 hw1 => by obtain ⟨⟨⟨x0, x1⟩, x2, x3⟩, x4⟩ := hw1; go_simp⟩) ?_
                  simp only [Act.put, List.setIfInBounds_toArray, List.set_cons_zero, List.set_cons_succ]
                  refine wpAnyK_takeTo 2 (some 40) (.pointer (some ⟨gb + 1, 0, none⟩)) [] rfl rfl (by kernel_rfl) (by kernel_rfl) (by kernel_rfl) (by kernel_rfl) (fun _ _ _ h => h) hS (Or.inl ⟨rfl, fun w1 hw1 => by go_simp⟩) ?_
                  simp only [Act.put, List.setIfInBounds_toArray, List.set_cons_zero, List.set_cons_succ]
                  refine wpAnyK_takeTo 3 (some 41) (.int .i64 b.lo) [] rfl rfl (by kernel_rfl) (by kernel_rfl) (by kernel_rfl) (by kernel_rfl) (fun _ _ _ h => h) hS (Or.inl ⟨rfl, fun w1 hw1 => by obtain ⟨⟨⟨x0, x1⟩, x2, x3⟩, x4⟩ := hw1; go_simp⟩) ?_
                  simp only [Act.put, List.setIfInBounds_toArray, List.set_cons_zero, List.set_cons_succ]
                  refine wpAnyK_takeTo 6 (some 44) (.pointer (some ⟨gb, 1, none⟩)) [] rfl rfl (by kernel_rfl) (by kernel_rfl) (by kernel_rfl) (by kernel_rfl) (fun _ _ _ h => h) hS (Or.inl ⟨rfl, fun w1 hw1 => by go_simp⟩) ?_
                  simp only [Act.put, List.setIfInBounds_toArray, List.set_cons_zero, List.set_cons_succ]
                  refine wpAnyK_takeTo 7 (some 45) (.int .i64 a.hi) [] rfl rfl (by kernel_rfl) (by kernel_rfl) (by kernel_rfl) (by kernel_rfl) (fun _ _ _ h => h) hS (Or.inl ⟨rfl, fun w1 hw1 => by obtain ⟨⟨⟨x0, x1⟩, x2, x3⟩, x4⟩ := hw1; go_simp⟩) ?_
                  simp only [Act.put, List.setIfInBounds_toArray, List.set_cons_zero, List.set_cons_succ]
                  refine wpAnyK_takeTo 8 (some 46) (.pointer (some ⟨gb + 1, 1, none⟩)) [] rfl rfl (by kernel_rfl) (by kernel_rfl) (by kernel_rfl) (by kernel_rfl) (fun _ _ _ h => h) hS (Or.inl ⟨rfl, fun w1 hw1 => by go_simp⟩) ?_
                  simp only [Act.put, List.setIfInBounds_toArray, List.set_cons_zero, List.set_cons_succ]
                  refine wpAnyK_takeTo 9 (some 47) (.int .i64 b.hi) [] rfl rfl (by kernel_rfl) (by kernel_rfl) (by kernel_rfl) (by kernel_rfl) (fun _ _ _ h => h) hS (Or.inl ⟨rfl, fun w1 hw1 => by obtain ⟨⟨⟨x0, x1⟩, x2, x3⟩, x4⟩ := hw1; go_simp⟩) ?_
                  simp only [Act.put, List.setIfInBounds_toArray, List.set_cons_zero, List.set_cons_succ]
                  refine wpAnyK_one (i := 4) (by kernel_rfl) rfl rfl ?_
                  refine wp_call_to (some 42) rfl 15 #[.int .i64 a.lo, .int .i64 b.lo] (by go_simp) (hcl W2.drew) ?_
                  rintro e Vx ⟨rfl, hVx⟩
                  obtain rfl := hVx.symm
                  clear hVx
                  refine ⟨_, rfl, fun _ => hS, ?_⟩
                  simp only [Act.put, List.setIfInBounds_toArray, List.set_cons_zero, List.set_cons_succ]
                  refine wpAnyK_takeTo 5 (some 43) (.int .i64 1) [] rfl rfl (by kernel_rfl) (by kernel_rfl) (by kernel_rfl) (by kernel_rfl) (fun _ _ _ h => h) hS (Or.inl ⟨rfl, fun w1 hw1 => by go_simp; decide⟩) ?_
                  simp only [Act.put, List.setIfInBounds_toArray, List.set_cons_zero, List.set_cons_succ]
                  refine wpAnyK_takeTo 12 (some 50) (.pointer (some ⟨0, 3, none⟩)) [] rfl rfl (by kernel_rfl) (by kernel_rfl) (by kernel_rfl) (by kernel_rfl) (fun _ _ _ h => h) hS (Or.inl ⟨rfl, fun w1 hw1 => by go_simp⟩) ?_
                  simp only [Act.put, List.setIfInBounds_toArray, List.set_cons_zero, List.set_cons_succ]
                  refine wpAnyK_one (i := 10) (by kernel_rfl) rfl rfl ?_
                  refine wp_call_to (some 48) rfl 15 #[.int .i64 a.hi, .int .i64 b.hi] (by go_simp) (hch W2.drew) ?_
                  rintro e Vx ⟨rfl, hVx⟩
                  obtain rfl := hVx.symm
                  clear hVx
                  refine ⟨_, rfl, fun _ => hS, ?_⟩
                  simp only [Act.put, List.setIfInBounds_toArray, List.set_cons_zero, List.set_cons_succ]
                  refine wpAnyK_takeTo 11 (some 49) (.int .i64 2) [] rfl rfl (by kernel_rfl) (by kernel_rfl) (by kernel_rfl) (by kernel_rfl) (fun _ _ _ h => h) hS (Or.inl ⟨rfl, fun w1 hw1 => by go_simp; decide⟩) ?_
                  simp only [Act.put, List.setIfInBounds_toArray, List.set_cons_zero, List.set_cons_succ]
                  refine wpAnyK_takeTo 13 (some 51) (.pointer (some ⟨0, 5, none⟩)) [] rfl rfl (by kernel_rfl) (by kernel_rfl) (by kernel_rfl) (by kernel_rfl) (fun _ _ _ h => h) hS (Or.inl ⟨rfl, fun w1 hw1 => by go_simp⟩) ?_
                  simp only [Act.put, List.setIfInBounds_toArray, List.set_cons_zero, List.set_cons_succ]
                  refine wpAnyK_takeTo 14 (some 52) (.int .i64 10) [] rfl rfl (by kernel_rfl) (by kernel_rfl) (by kernel_rfl) (by kernel_rfl) (fun _ _ _ h => h) hS (Or.inl ⟨rfl, fun w1 hw1 => by obtain ⟨⟨⟨x0, x1⟩, x2, x3⟩, x4⟩ := hw1; go_simp⟩) ?_
                  simp only [Act.put, List.setIfInBounds_toArray, List.set_cons_zero, List.set_cons_succ]
                  refine wpAnyK_takeTo 15 (some 4) (.int .i64 10) [] rfl rfl (by kernel_rfl) (by kernel_rfl) (by kernel_rfl) (by kernel_rfl) (fun _ _ _ h => h) hS (Or.inl ⟨rfl, fun w1 hw1 => by go_simp⟩) ?_
                  simp only [Act.put, List.setIfInBounds_toArray, List.set_cons_zero, List.set_cons_succ]
                  refine wpAnyK_takeTo 16 (some 5) (.int .i64 0) [] rfl rfl (by kernel_rfl) (by kernel_rfl) (by kernel_rfl) (by kernel_rfl) (fun _ _ _ h => h) hS (Or.inl ⟨rfl, fun w1 hw1 => by go_simp⟩) ?_
                  simp only [Act.put, List.setIfInBounds_toArray, List.set_cons_zero, List.set_cons_succ]
                  refine wpAnyK_done (by kernel_rfl) ?_ _
                  clear hS hS0 hcl hch hTB2 hTBD HBD FD
                  go_wp2
                  go_ret2
                  exact ⟨by rw [HV.out, HE.out, HN.out, HI.out]; rfl, HFD.out⟩
              · have hlo : ¬ a.lo < b.lo ∧ ¬ a.lo = b.lo := by omega
                rcases Int.lt_trichotomy a.hi b.hi with hhi | hhi | hhi2
                · have HI := hide (show relIn a b = 5 by unfold relIn; (repeat' split) <;> omega)
                  have hS := And.intro hS0 (hTBD.at 6 5 rfl)
                  have hl2 : Lib.compareInt a.lo b.lo = 1 := by unfold Lib.compareInt; (repeat' split) <;> omega
                  have hh2 : Lib.compareInt a.hi b.hi = -1 := by unfold Lib.compareInt; (repeat' split) <;> omega
                  rw [hl2] at hcl
                  rw [hh2] at hch
                  clear hl2 hh2
                  skip
                  refine wp_region_K (fun _ => true) (fun V => ((V.cell? ⟨gb, 0, none⟩ = some (.int .i64 a.lo) ∧ V.cell? ⟨gb, 1, none⟩ = some (.int .i64 a.hi)) ∧ V.cell? ⟨gb + 1, 0, none⟩ = some (.int .i64 b.lo) ∧ V.cell? ⟨gb + 1, 1, none⟩ = some (.int .i64 b.hi)) ∧ V.cell? ⟨0, 6, none⟩ = some (.int .i64 5)) (by kernel_rfl) ?_
                  refine wpAnyK_takeTo 0 (some 38) (.pointer (some ⟨gb, 0, none⟩)) [] rfl rfl (by kernel_rfl) (by kernel_rfl) (by kernel_rfl) (by kernel_rfl) (fun _ _ _ h => h) hS (Or.inl ⟨rfl, fun w1 hw1 => by go_simp⟩) ?_
                  simp only [Act.put, List.setIfInBounds_toArray, List.set_cons_zero, List.set_cons_succ]
                  refine wpAnyK_takeTo 1 (some 39) (.int .i64 a.lo) [] rfl rfl (by kernel_rfl) (by kernel_rfl) (by kernel_rfl) (by kernel_rfl) (fun _ _ _ h => h) hS (Or.inl ⟨rfl, fun w1 hw1 => by obtain ⟨⟨⟨x0, x1⟩, x2, x3⟩, x4⟩ := hw1; go_simp⟩) ?_
                  simp only [Act.put, List.setIfInBounds_toArray, List.set_cons_zero, List.set_cons_succ]
                  refine wpAnyK_takeTo 2 (some 40) (.pointer (some ⟨gb + 1, 0, none⟩)) [] rfl rfl (by kernel_rfl) (by kernel_rfl) (by kernel_rfl) (by kernel_rfl) (fun _ _ _ h => h) hS (Or.inl ⟨rfl, fun w1 hw1 => by go_simp⟩) ?_
                  simp only [Act.put, List.setIfInBounds_toArray, List.set_cons_zero, List.set_cons_succ]
                  refine wpAnyK_takeTo 3 (some 41) (.int .i64 b.lo) [] rfl rfl (by kernel_rfl) (by kernel_rfl) (by kernel_rfl) (by kernel_rfl) (fun _ _ _ h => h) hS (Or.inl ⟨rfl, fun w1 hw1 => by obtain ⟨⟨⟨x0, x1⟩, x2, x3⟩, x4⟩ := hw1; go_simp⟩) ?_
                  simp only [Act.put, List.setIfInBounds_toArray, List.set_cons_zero, List.set_cons_succ]
                  refine wpAnyK_takeTo 6 (some 44) (.pointer (some ⟨gb, 1, none⟩)) [] rfl rfl (by kernel_rfl) (by kernel_rfl) (by kernel_rfl) (by kernel_rfl) (fun _ _ _ h => h) hS (Or.inl ⟨rfl, fun w1 hw1 => by go_simp⟩) ?_
                  simp only [Act.put, List.setIfInBounds_toArray, List.set_cons_zero, List.set_cons_succ]
                  refine wpAnyK_takeTo 7 (some 45) (.int .i64 a.hi) [] rfl rfl (by kernel_rfl) (by kernel_rfl) (by kernel_rfl) (by kernel_rfl) (fun _ _ _ h => h) hS (Or.inl ⟨rfl, fun w1 hw1 => by obtain ⟨⟨⟨x0, x1⟩, x2, x3⟩, x4⟩ := hw1; go_simp⟩) ?_
                  simp only [Act.put, List.setIfInBounds_toArray, List.set_cons_zero, List.set_cons_succ]
                  refine wpAnyK_takeTo 8 (some 46) (.pointer (some ⟨gb + 1, 1, none⟩)) [] rfl rfl (by kernel_rfl) (by kernel_rfl) (by kernel_rfl) (by kernel_rfl) (fun _ _ _ h => h) hS (Or.inl ⟨rfl, fun w1 hw1 => by go_simp⟩) ?_
                  simp only [Act.put, List.setIfInBounds_toArray, List.set_cons_zero, List.set_cons_succ]
                  refine wpAnyK_takeTo 9 (some 47) (.int .i64 b.hi) [] rfl rfl (by kernel_rfl) (by kernel_rfl) (by kernel_rfl) (by kernel_rfl) (fun _ _ _ h => h) hS (Or.inl ⟨rfl, fun w1 hw1 => by obtain ⟨⟨⟨x0, x1⟩, x2, x3⟩, x4⟩ := hw1; go_simp⟩) ?_
                  simp only [Act.put, List.setIfInBounds_toArray, List.set_cons_zero, List.set_cons_succ]
                  refine wpAnyK_one (i := 4) (by kernel_rfl) rfl rfl ?_
                  refine wp_call_to (some 42) rfl 15 #[.int .i64 a.lo, .int .i64 b.lo] (by go_simp) (hcl W2.drew) ?_
                  rintro e Vx ⟨rfl, hVx⟩
                  obtain rfl := hVx.symm
                  clear hVx
                  refine ⟨_, rfl, fun _ => hS, ?_⟩
                  simp only [Act.put, List.setIfInBounds_toArray, List.set_cons_zero, List.set_cons_succ]
                  refine wpAnyK_takeTo 5 (some 43) (.int .i64 2) [] rfl rfl (by kernel_rfl) (by kernel_rfl) (by kernel_rfl) (by kernel_rfl) (fun _ _ _ h => h) hS (Or.inl ⟨rfl, fun w1 hw1 => by go_simp; decide⟩) ?_
                  simp only [Act.put, List.setIfInBounds_toArray, List.set_cons_zero, List.set_cons_succ]
                  refine wpAnyK_takeTo 12 (some 50) (.pointer (some ⟨0, 6, none⟩)) [] rfl rfl (by kernel_rfl) (by kernel_rfl) (by kernel_rfl) (by kernel_rfl) (fun _ _ _ h => h) hS (Or.inl ⟨rfl, fun w1 hw1 => by go_simp⟩) ?_
                  simp only [Act.put, List.setIfInBounds_toArray, List.set_cons_zero, List.set_cons_succ]
                  refine wpAnyK_one (i := 10) (by kernel_rfl) rfl rfl ?_
                  refine wp_call_to (some 48) rfl 15 #[.int .i64 a.hi, .int .i64 b.hi] (by go_simp) (hch W2.drew) ?_
                  rintro e Vx ⟨rfl, hVx⟩
                  obtain rfl := hVx.symm
                  clear hVx
                  refine ⟨_, rfl, fun _ => hS, ?_⟩
                  simp only [Act.put, List.setIfInBounds_toArray, List.set_cons_zero, List.set_cons_succ]
                  refine wpAnyK_takeTo 11 (some 49) (.int .i64 0) [] rfl rfl (by kernel_rfl) (by kernel_rfl) (by kernel_rfl) (by kernel_rfl) (fun _ _ _ h => h) hS (Or.inl ⟨rfl, fun w1 hw1 => by go_simp; decide⟩) ?_
                  simp only [Act.put, List.setIfInBounds_toArray, List.set_cons_zero, List.set_cons_succ]
                  refine wpAnyK_takeTo 13 (some 51) (.pointer (some ⟨0, 6, none⟩)) [] rfl rfl (by kernel_rfl) (by kernel_rfl) (by kernel_rfl) (by kernel_rfl) (fun _ _ _ h => h) hS (Or.inl ⟨rfl, fun w1 hw1 => by go_simp⟩) ?_
                  simp only [Act.put, List.setIfInBounds_toArray, List.set_cons_zero, List.set_cons_succ]
                  refine wpAnyK_takeTo 14 (some 52) (.int .i64 5) [] rfl rfl (by kernel_rfl) (by kernel_rfl) (by kernel_rfl) (by kernel_rfl) (fun _ _ _ h => h) hS (Or.inl ⟨rfl, fun w1 hw1 => by obtain ⟨⟨⟨x0, x1⟩, x2, x3⟩, x4⟩ := hw1; go_simp⟩) ?_
                  simp only [Act.put, List.setIfInBounds_toArray, List.set_cons_zero, List.set_cons_succ]
                  refine wpAnyK_takeTo 15 (some 4) (.int .i64 5) [] rfl rfl (by kernel_rfl) (by kernel_rfl) (by kernel_rfl) (by kernel_rfl) (fun _ _ _ h => h) hS (Or.inl ⟨rfl, fun w1 hw1 => by go_simp⟩) ?_
                  simp only [Act.put, List.setIfInBounds_toArray, List.set_cons_zero, List.set_cons_succ]
                  refine wpAnyK_takeTo 16 (some 5) (.int .i64 0) [] rfl rfl (by kernel_rfl) (by kernel_rfl) (by kernel_rfl) (by kernel_rfl) (fun _ _ _ h => h) hS (Or.inl ⟨rfl, fun w1 hw1 => by go_simp⟩) ?_
                  simp only [Act.put, List.setIfInBounds_toArray, List.set_cons_zero, List.set_cons_succ]
                  refine wpAnyK_done (by kernel_rfl) ?_ _
                  clear hS hS0 hcl hch hTB2 hTBD HBD FD
                  go_wp2
                  go_ret2
                  exact ⟨by rw [HV.out, HE.out, HN.out, HI.out]; rfl, HFD.out⟩
                · have hhi1 : ¬ a.hi < b.hi := by omega
                  have HI := hide (show relIn a b = 6 by unfold relIn; (repeat' split) <;> omega)
                  have hS := And.intro hS0 (hTBD.at 7 6 rfl)
                  have hl2 : Lib.compareInt a.lo b.lo = 1 := by unfold Lib.compareInt; (repeat' split) <;> omega
                  have hh2 : Lib.compareInt a.hi b.hi = 0 := by unfold Lib.compareInt; (repeat' split) <;> omega
                  rw [hl2] at hcl
                  rw [hh2] at hch
                  clear hl2 hh2
                  skip
                  refine wp_region_K (fun _ => true) (fun V => ((V.cell? ⟨gb, 0, none⟩ = some (.int .i64 a.lo) ∧ V.cell? ⟨gb, 1, none⟩ = some (.int .i64 a.hi)) ∧ V.cell? ⟨gb + 1, 0, none⟩ = some (.int .i64 b.lo) ∧ V.cell? ⟨gb + 1, 1, none⟩ = some (.int .i64 b.hi)) ∧ V.cell? ⟨0, 7, none⟩ = some (.int .i64 6)) (by kernel_rfl) ?_
                  refine wpAnyK_takeTo 0 (some 38) (.pointer (some ⟨gb, 0, none⟩)) [] rfl rfl (by kernel_rfl) (by kernel_rfl) (by kernel_rfl) (by kernel_rfl) (fun _ _ _ h => h) hS (Or.inl ⟨rfl, fun w1 hw1 => by go_simp⟩) ?_
                  simp only [Act.put, List.setIfInBounds_toArray, List.set_cons_zero, List.set_cons_succ]
                  refine wpAnyK_takeTo 1 (some 39) (.int .i64 a.lo) [] rfl rfl (by kernel_rfl) (by kernel_rfl) (by kernel_rfl) (by kernel_rfl) (fun _ _ _ h => h) hS (Or.inl ⟨rfl, fun w1 hw1 => by obtain ⟨⟨⟨x0, x1⟩, x2, x3⟩, x4⟩ := hw1; go_simp⟩) ?_
                  simp only [Act.put, List.setIfInBounds_toArray, List.set_cons_zero, List.set_cons_succ]
                  refine wpAnyK_takeTo 2 (some 40) (.pointer (some ⟨gb + 1, 0, none⟩)) [] rfl rfl (by kernel_rfl) (by kernel_rfl) (by kernel_rfl) (by kernel_rfl) (fun _ _ _ h => h) hS (Or.inl ⟨rfl, fun w1 hw1 => by go_simp⟩) ?_
                  simp only [Act.put, List.setIfInBounds_toArray, List.set_cons_zero, List.set_cons_succ]
                  refine wpAnyK_takeTo 3 (some 41) (.int .i64 b.lo) [] rfl rfl (by kernel_rfl) (by kernel_rfl) (by kernel_rfl) (by kernel_rfl) (fun _ _ _ h => h) hS (Or.inl ⟨rfl, fun w1 hw1 => by obtain ⟨⟨⟨x0, x1⟩, x2, x3⟩, x4⟩ := hw1; go_simp⟩) ?_
                  simp only [Act.put, List.setIfInBounds_toArray, List.set_cons_zero, List.set_cons_succ]
                  refine wpAnyK_takeTo 6 (some 44) (.pointer (some ⟨gb, 1, none⟩)) [] rfl rfl (by kernel_rfl) (by kernel_rfl) (by kernel_rfl) (by kernel_rfl) (fun _ _ _ h => h) hS (Or.inl ⟨rfl, fun w1 hw1 => by go_simp⟩) ?_
                  simp only [Act.put, List.setIfInBounds_toArray, List.set_cons_zero, List.set_cons_succ]
                  refine wpAnyK_takeTo 7 (some 45) (.int .i64 a.hi) [] rfl rfl (by kernel_rfl) (by kernel_rfl) (by kernel_rfl) (by kernel_rfl) (fun _ _ _ h => h) hS (Or.inl ⟨rfl, fun w1 hw1 => by obtain ⟨⟨⟨x0, x1⟩, x2, x3⟩, x4⟩ := hw1; go_simp⟩) ?_
                  simp only [Act.put, List.setIfInBounds_toArray, List.set_cons_zero, List.set_cons_succ]
                  refine wpAnyK_takeTo 8 (some 46) (.pointer (some ⟨gb + 1, 1, none⟩)) [] rfl rfl (by kernel_rfl) (by kernel_rfl) (by kernel_rfl) (by kernel_rfl) (fun _ _ _ h => h) hS (Or.inl ⟨rfl, fun w1 hw1 => by go_simp⟩) ?_
                  simp only [Act.put, List.setIfInBounds_toArray, List.set_cons_zero, List.set_cons_succ]
                  refine wpAnyK_takeTo 9 (some 47) (.int .i64 b.hi) [] rfl rfl (by kernel_rfl) (by kernel_rfl) (by kernel_rfl) (by kernel_rfl) (fun _ _ _ h => h) hS (Or.inl ⟨rfl, fun w1 hw1 => by obtain ⟨⟨⟨x0, x1⟩, x2, x3⟩, x4⟩ := hw1; go_simp⟩) ?_
                  simp only [Act.put, List.setIfInBounds_toArray, List.set_cons_zero, List.set_cons_succ]
                  refine wpAnyK_one (i := 4) (by kernel_rfl) rfl rfl ?_
                  refine wp_call_to (some 42) rfl 15 #[.int .i64 a.lo, .int .i64 b.lo] (by go_simp) (hcl W2.drew) ?_
                  rintro e Vx ⟨rfl, hVx⟩
                  obtain rfl := hVx.symm
                  clear hVx
                  refine ⟨_, rfl, fun _ => hS, ?_⟩
                  simp only [Act.put, List.setIfInBounds_toArray, List.set_cons_zero, List.set_cons_succ]
                  refine wpAnyK_takeTo 5 (some 43) (.int .i64 2) [] rfl rfl (by kernel_rfl) (by kernel_rfl) (by kernel_rfl) (by kernel_rfl) (fun _ _ _ h => h) hS (Or.inl ⟨rfl, fun w1 hw1 => by go_simp; decide⟩) ?_
                  simp only [Act.put, List.setIfInBounds_toArray, List.set_cons_zero, List.set_cons_succ]
                  refine wpAnyK_takeTo 12 (some 50) (.pointer (some ⟨0, 6, none⟩)) [] rfl rfl (by kernel_rfl) (by kernel_rfl) (by kernel_rfl) (by kernel_rfl) (fun _ _ _ h => h) hS (Or.inl ⟨rfl, fun w1 hw1 => by go_simp⟩) ?_
                  simp only [Act.put, List.setIfInBounds_toArray, List.set_cons_zero, List.set_cons_succ]
                  refine wpAnyK_one (i := 10) (by kernel_rfl) rfl rfl ?_
                  refine wp_call_to (some 48) rfl 15 #[.int .i64 a.hi, .int .i64 b.hi] (by go_simp) (hch W2.drew) ?_
                  rintro e Vx ⟨rfl, hVx⟩
                  obtain rfl := hVx.symm
                  clear hVx
                  refine ⟨_, rfl, fun _ => hS, ?_⟩
                  simp only [Act.put, List.setIfInBounds_toArray, List.set_cons_zero, List.set_cons_succ]
                  refine wpAnyK_takeTo 11 (some 49) (.int .i64 1) [] rfl rfl (by kernel_rfl) (by kernel_rfl) (by kernel_rfl) (by kernel_rfl) (fun _ _ _ h => h) hS (Or.inl ⟨rfl, fun w1 hw1 => by go_simp; decide⟩) ?_
                  simp only [Act.put, List.setIfInBounds_toArray, List.set_cons_zero, List.set_cons_succ]
                  refine wpAnyK_takeTo 13 (some 51) (.pointer (some ⟨0, 7, none⟩)) [] rfl rfl (by kernel_rfl) (by kernel_rfl) (by kernel_rfl) (by kernel_rfl) (fun _ _ _ h => h) hS (Or.inl ⟨rfl, fun w1 hw1 => by go_simp⟩) ?_
                  simp only [Act.put, List.setIfInBounds_toArray, List.set_cons_zero, List.set_cons_succ]
                  refine wpAnyK_takeTo 14 (some 52) (.int .i64 6) [] rfl rfl (by kernel_rfl) (by kernel_rfl) (by kernel_rfl) (by kernel_rfl) (fun _ _ _ h => h) hS (Or.inl ⟨rfl, fun w1 hw1 => by obtain ⟨⟨⟨x0, x1⟩, x2, x3⟩, x4⟩ := hw1; go_simp⟩) ?_
                  simp only [Act.put, List.setIfInBounds_toArray, List.set_cons_zero, List.set_cons_succ]
                  refine wpAnyK_takeTo 15 (some 4) (.int .i64 6) [] rfl rfl (by kernel_rfl) (by kernel_rfl) (by kernel_rfl) (by kernel_rfl) (fun _ _ _ h => h) hS (Or.inl ⟨rfl, fun w1 hw1 => by go_simp⟩) ?_
                  simp only [Act.put, List.setIfInBounds_toArray, List.set_cons_zero, List.set_cons_succ]
                  refine wpAnyK_takeTo 16 (some 5) (.int .i64 0) [] rfl rfl (by kernel_rfl) (by kernel_rfl) (by kernel_rfl) (by kernel_rfl) (fun _ _ _ h => h) hS (Or.inl ⟨rfl, fun w1 hw1 => by go_simp⟩) ?_
                  simp only [Act.put, List.setIfInBounds_toArray, List.set_cons_zero, List.set_cons_succ]
                  refine wpAnyK_done (by kernel_rfl) ?_ _
                  clear hS hS0 hcl hch hTB2 hTBD HBD FD
                  go_wp2
                  go_ret2
                  exact ⟨by rw [HV.out, HE.out, HN.out, HI.out]; rfl, HFD.out⟩
                · have hhi : ¬ a.hi < b.hi ∧ ¬ a.hi = b.hi := by omega
                  have HI := hide (show relIn a b = 11 by unfold relIn; (repeat' split) <;> omega)
                  have hS := And.intro hS0 (hTBD.at 8 11 rfl)
                  have hl2 : Lib.compareInt a.lo b.lo = 1 := by unfold Lib.compareInt; (repeat' split) <;> omega
                  have hh2 : Lib.compareInt a.hi b.hi = 1 := by unfold Lib.compareInt; (repeat' split) <;> omega
                  rw [hl2] at hcl
                  rw [hh2] at hch
                  clear hl2 hh2
                  skip
                  refine wp_region_K (fun _ => true) (fun V => ((V.cell? ⟨gb, 0, none⟩ = some (.int .i64 a.lo) ∧ V.cell? ⟨gb, 1, none⟩ = some (.int .i64 a.hi)) ∧ V.cell? ⟨gb + 1, 0, none⟩ = some (.int .i64 b.lo) ∧ V.cell? ⟨gb + 1, 1, none⟩ = some (.int .i64 b.hi)) ∧ V.cell? ⟨0, 8, none⟩ = some (.int .i64 11)) (by kernel_rfl) ?_
                  refine wpAnyK_takeTo 0 (some 38) (.pointer (some ⟨gb, 0, none⟩)) [] rfl rfl (by kernel_rfl) (by kernel_rfl) (by kernel_rfl) (by kernel_rfl) (fun _ _ _ h => h) hS (Or.inl ⟨rfl, fun w1 hw1 => by go_simp⟩) ?_
                  simp only [Act.put, List.setIfInBounds_toArray, List.set_cons_zero, List.set_cons_succ]
                  refine wpAnyK_takeTo 1 (some 39) (.int .i64 a.lo) [] rfl rfl (by kernel_rfl) (by kernel_rfl) (by kernel_rfl) (by kernel_rfl) (fun _ _ _ h => h) hS (Or.inl ⟨rfl, fun w1 hw1 => by obtain ⟨⟨⟨x0, x1⟩, x2, x3⟩, x4⟩ := hw1; go_simp⟩) ?_
                  simp only [Act.put, List.setIfInBounds_toArray, List.set_cons_zero, List.set_cons_succ]
                  refine wpAnyK_takeTo 2 (some 40) (.pointer (some ⟨gb + 1, 0, none⟩)) [] rfl rfl (by kernel_rfl) (by kernel_rfl) (by kernel_rfl) (by kernel_rfl) (fun _ _ _ h => h) hS (Or.inl ⟨rfl, fun w1 hw1 => by go_simp⟩) ?_
                  simp only [Act.put, List.setIfInBounds_toArray, List.set_cons_zero, List.set_cons_succ]
                  refine wpAnyK_takeTo 3 (some 41) (.int .i64 b.lo) [] rfl rfl (by kernel_rfl) (by kernel_rfl) (by kernel_rfl) (by kernel_rfl) (fun _ _ _ h => h) hS (Or.inl ⟨rfl, fun w1 hw1 => by obtain ⟨⟨⟨x0, x1⟩, x2, x3⟩, x4⟩ := hw1; go_simp⟩) ?_
                  simp only [Act.put, List.setIfInBounds_toArray, List.set_cons_zero, List.set_cons_succ]
                  refine wpAnyK_takeTo 6 (some 44) (.pointer (some ⟨gb, 1, none⟩)) [] rfl rfl (by kernel_rfl) (by kernel_rfl) (by kernel_rfl) (by kernel_rfl) (fun _ _ _ h => h) hS (Or.inl ⟨rfl, fun w1 hw1 => by go_simp⟩) ?_
                  simp only [Act.put, List.setIfInBounds_toArray, List.set_cons_zero, List.set_cons_succ]
                  refine wpAnyK_takeTo 7 (some 45) (.int .i64 a.hi) [] rfl rfl (by kernel_rfl) (by kernel_rfl) (by kernel_rfl) (by kernel_rfl) (fun _ _ _ h => h) hS (Or.inl ⟨rfl, fun w1 hw1 => by obtain ⟨⟨⟨x0, x1⟩, x2, x3⟩, x4⟩ := hw1; go_simp⟩) ?_
                  simp only [Act.put, List.setIfInBounds_toArray, List.set_cons_zero, List.set_cons_succ]
                  refine wpAnyK_takeTo 8 (some 46) (.pointer (some ⟨gb + 1, 1, none⟩)) [] rfl rfl (by kernel_rfl) (by kernel_rfl) (by kernel_rfl) (by kernel_rfl) (fun _ _ _ h => h) hS (Or.inl ⟨rfl, fun w1 hw1 => by go_simp⟩) ?_
                  simp only [Act.put, List.setIfInBounds_toArray, List.set_cons_zero, List.set_cons_succ]
                  refine wpAnyK_takeTo 9 (some 47) (.int .i64 b.hi) [] rfl rfl (by kernel_rfl) (by kernel_rfl) (by kernel_rfl) (by kernel_rfl) (fun _ _ _ h => h) hS (Or.inl ⟨rfl, fun w1 hw1 => by obtain ⟨⟨⟨x0, x1⟩, x2, x3⟩, x4⟩ := hw1; go_simp⟩) ?_
                  simp only [Act.put, List.setIfInBounds_toArray, List.set_cons_zero, List.set_cons_succ]
                  refine wpAnyK_one (i := 4) (by kernel_rfl) rfl rfl ?_
                  refine wp_call_to (some 42) rfl 15 #[.int .i64 a.lo, .int .i64 b.lo] (by go_simp) (hcl W2.drew) ?_
                  rintro e Vx ⟨rfl, hVx⟩
                  obtain rfl := hVx.symm
                  clear hVx
                  refine ⟨_, rfl, fun _ => hS, ?_⟩
                  simp only [Act.put, List.setIfInBounds_toArray, List.set_cons_zero, List.set_cons_succ]
                  refine wpAnyK_takeTo 5 (some 43) (.int .i64 2) [] rfl rfl (by kernel_rfl) (by kernel_rfl) (by kernel_rfl) (by kernel_rfl) (fun _ _ _ h => h) hS (Or.inl ⟨rfl, fun w1 hw1 => by go_simp; decide⟩) ?_
                  simp only [Act.put, List.setIfInBounds_toArray, List.set_cons_zero, List.set_cons_succ]
                  refine wpAnyK_takeTo 12 (some 50) (.pointer (some ⟨0, 6, none⟩)) [] rfl rfl (by kernel_rfl) (by kernel_rfl) (by kernel_rfl) (by kernel_rfl) (fun _ _ _ h => h) hS (Or.inl ⟨rfl, fun w1 hw1 => by go_simp⟩) ?_
                  simp only [Act.put, List.setIfInBounds_toArray, List.set_cons_zero, List.set_cons_succ]
                  refine wpAnyK_one (i := 10) (by kernel_rfl) rfl rfl ?_
                  refine wp_call_to (some 48) rfl 15 #[.int .i64 a.hi, .int .i64 b.hi] (by go_simp) (hch W2.drew) ?_
                  rintro e Vx ⟨rfl, hVx⟩
                  obtain rfl := hVx.symm
                  clear hVx
                  refine ⟨_, rfl, fun _ => hS, ?_⟩
                  simp only [Act.put, List.setIfInBounds_toArray, List.set_cons_zero, List.set_cons_succ]
                  refine wpAnyK_takeTo 11 (some 49) (.int .i64 2) [] rfl rfl (by kernel_rfl) (by kernel_rfl) (by kernel_rfl) (by kernel_rfl) (fun _ _ _ h => h) hS (Or.inl ⟨rfl, fun w1 hw1 => by go_simp; decide⟩) ?_
                  simp only [Act.put, List.setIfInBounds_toArray, List.set_cons_zero, List.set_cons_succ]
                  refine wpAnyK_takeTo 13 (some 51) (.pointer (some ⟨0, 8, none⟩)) [] rfl rfl (by kernel_rfl) (by kernel_rfl) (by kernel_rfl) (by kernel_rfl) (fun _ _ _ h => h) hS (Or.inl ⟨rfl, fun w1 hw1 => by go_simp⟩) ?_
                  simp only [Act.put, List.setIfInBounds_toArray, List.set_cons_zero, List.set_cons_succ]
                  refine wpAnyK_takeTo 14 (some 52) (.int .i64 11) [] rfl rfl (by kernel_rfl) (by kernel_rfl) (by kernel_rfl) (by kernel_rfl) (fun _ _ _ h => h) hS (Or.inl ⟨rfl, fun w1 hw1 => by obtain ⟨⟨⟨x0, x1⟩, x2, x3⟩, x4⟩ := hw1; go_simp⟩) ?_
                  simp only [Act.put, List.setIfInBounds_toArray, List.set_cons_zero, List.set_cons_succ]
                  refine wpAnyK_takeTo 15 (some 4) (.int .i64 11) [] rfl rfl (by kernel_rfl) (by kernel_rfl) (by kernel_rfl) (by kernel_rfl) (fun _ _ _ h => h) hS (Or.inl ⟨rfl, fun w1 hw1 => by go_simp⟩) ?_
                  simp only [Act.put, List.setIfInBounds_toArray, List.set_cons_zero, List.set_cons_succ]
                  refine wpAnyK_takeTo 16 (some 5) (.int .i64 0) [] rfl rfl (by kernel_rfl) (by kernel_rfl) (by kernel_rfl) (by kernel_rfl) (fun _ _ _ h => h) hS (Or.inl ⟨rfl, fun w1 hw1 => by go_simp⟩) ?_
                  simp only [Act.put, List.setIfInBounds_toArray, List.set_cons_zero, List.set_cons_succ]
                  refine wpAnyK_done (by kernel_rfl) ?_ _
                  clear hS hS0 hcl hch hTB2 hTBD HBD FD
                  go_wp2
                  go_ret2
                  exact ⟨by rw [HV.out, HE.out, HN.out, HI.out]; rfl, HFD.out⟩
    · have hb' : rightB b = false := by simpa using hb
      have ho : relOk a b = false := by simp [relOk, hb']
      have HV := hide (show relV a b = 0 by simp [relV, ho])
      have HE := hide (show relE a b = 40 by simp [relE, ho])
      rw [codeP_no b hb']
      go_wp2
      go_ret2
      exact ⟨by rw [HV.out, HE.out]; rfl, HF2.out⟩
  · have ha' : rightB a = false := by simpa using ha
    have ho : relOk a b = false := by simp [relOk, ha']
    have HV := hide (show relV a b = 0 by simp [relV, ho])
    have HE := hide (show relE a b = 40 by simp [relE, ho])
    rw [codeP_no a ha']
    go_wp2
    go_ret2
    exact ⟨by rw [HV.out, HE.out]; rfl, HF1.out⟩
end Go.Proofs.YtbdpdobaacbkkaaDoor
