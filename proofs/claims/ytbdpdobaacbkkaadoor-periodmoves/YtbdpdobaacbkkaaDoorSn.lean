/- The walk of PeriodMoves. -/
import Derived.Test.YtbdpdobaacbkkaaDoorSm
namespace Go.Proofs.YtbdpdobaacbkkaaDoor
open Go.RowKit
set_option linter.unusedVariables false

theorem minus_one (p q : Per) (s : Nat) (w : World) (hv : Pers w (some ⟨s, 0, none⟩) [q]) : Calls Tryd.prog 14 #[.agg #[.int .i64 p.lo, .int .i64 p.hi], .slice (some ⟨s, 0, none⟩) 1 1] w fun e w' => ∃ v O, e = .returned v ∧ OwnP w' v O ∧ IsMinus p [q] O ∧ Fr w w' (fun _ => False) ∧ ∀ r, v.ownBlock = some r → w.heap.size ≤ r :=
  minus_any p _ 1 [q] w hv (by simp)

set_option maxRecDepth 100000 in
set_option maxHeartbeats 8000000 in
theorem moves_walk (a b : Per) (n : Int) (w : World) (htab : Tab w) : Calls Tryd.prog 5 #[perV a, perV b, .int .i64 n] w fun e w' => e = .returned (.bool true) ∧ Fr w w' (fun _ => False) := by
  have HBX := hide (bx2_bx w a b)
  have HF0 := hide (bx2_fr w a b)
  have HTB := hide htab
  have hca := check_any a
  have hcb := check_any b
  have h1 := relate_any a b
  have h2 := relate_any (sh n a) (sh n b)
  unfold perV sh at h2
  unfold perV at hca hcb h1 ⊢
  clear htab
  go_enter Tryd.func5, Tryd.ntmps5
  go_wp2_with fail
  change Calls Tryd.prog 7 _ (bx2 w a b) _
  obtain ⟨W0, hW0⟩ : ∃ W0, W0 = bx2 w a b := ⟨_, rfl⟩
  obtain ⟨gb, hgb⟩ : ∃ gb, gb = w.heap.size := ⟨_, rfl⟩
  rw [← hW0] at HBX HF0 ⊢
  rw [← hgb] at HBX ⊢
  clear hW0 hgb
  refine (awake_any W0).mono ?_
  rintro e W1 ⟨rfl, f1⟩
  have HB1 := hide (HBX.out.fr f1)
  have HF1 := hide ((HF0.out.trans f1).mono (Y := fun _ => False) (by simp))
  clear f1 HBX HF0
  have t0 := HB1.out.ta.1
  have t1 := HB1.out.ta.2.1
  by_cases hn0 : n < 0
  · go_wp2
    go_ret
    exact ⟨rfl, HF1.out⟩
  by_cases hn1 : 1099511627776 < n
  · go_wp2
    go_ret
    exact ⟨rfl, HF1.out⟩
  go_wp2_with fail
  refine (hca W1).mono ?_
  rintro e W2 ⟨rfl, f2⟩
  have HB2 := hide (HB1.out.fr f2)
  have HF2 := hide ((HF1.out.trans f2).mono (Y := fun _ => False) (by simp))
  clear f2 HB1 HF1 hca t0 t1
  by_cases hra : rightB a = false
  · rw [codeP_no a hra]
    go_wp2
    go_ret
    exact ⟨rfl, HF2.out⟩
  replace hra : rightB a = true := by simpa using hra
  rw [codeP_ok a hra]
  have t2 := HB2.out.tb.1
  have t3 := HB2.out.tb.2.1
  go_wp2_with fail
  refine (hcb W2).mono ?_
  rintro e W3 ⟨rfl, f3⟩
  have HB3 := hide (HB2.out.fr f3)
  have HF3 := hide ((HF2.out.trans f3).mono (Y := fun _ => False) (by simp))
  clear f3 HB2 HF2 hcb t2 t3
  by_cases hrb : rightB b = false
  · rw [codeP_no b hrb]
    go_wp2
    go_ret
    exact ⟨rfl, HF3.out⟩
  replace hrb : rightB b = true := by simpa using hrb
  rw [codeP_ok b hrb]
  have hRa := (rightB_iff a).1 hra
  have hRb := (rightB_iff b).1 hrb
  have HRA := hide hRa
  have HRB := hide hRb
  unfold Right at hRa hRb
  have t1 := HB3.out.ta.2.1
  have t3 := HB3.out.tb.2.1
  have ws : IntKind.i64.wrap (1099511627776 - n) = 1099511627776 - n := by rw [IntKind.wrap_i64]; omega
  clear hra hrb
  by_cases hba : 1099511627776 - n < a.hi
  · go_wp2
    go_ret
    exact ⟨rfl, HF3.out⟩
  by_cases hbb : 1099511627776 - n < b.hi
  · go_wp2
    go_ret
    exact ⟨rfl, HF3.out⟩
  obtain ⟨hv1, hv2⟩ := rel_sh HRA.out HRB.out (n := n) (by omega) (by omega) (by omega)
  unfold sh at hv1 hv2
  rw [hv1, hv2] at h2
  have HV := hide (show relE a b = 0 by simp [relE, relOk, (rightB_iff a).2 HRA.out, (rightB_iff b).2 HRB.out])
  rw [HV.out] at h1
  generalize relV a b = rv at *
  have wa0 : IntKind.i64.wrap (a.lo + n) = a.lo + n := by rw [IntKind.wrap_i64]; omega
  have wa1 : IntKind.i64.wrap (a.hi + n) = a.hi + n := by rw [IntKind.wrap_i64]; omega
  have wb0 : IntKind.i64.wrap (b.lo + n) = b.lo + n := by rw [IntKind.wrap_i64]; omega
  have wb1 : IntKind.i64.wrap (b.hi + n) = b.hi + n := by rw [IntKind.wrap_i64]; omega
  have hn0' : 0 ≤ n := by omega
  have hra' : a.hi + n ≤ 1099511627776 := by omega
  have hrb' : b.hi + n ≤ 1099511627776 := by omega
  go_wp2_with fail
  clear hv1 hv2 t1 t3 ws
  obtain ⟨W4, hW4⟩ : ∃ W4, W4 = W3 := ⟨_, rfl⟩
  subst hW4
  have HB4 := HB3
  have hSx : ∀ V, Fr W4 V (fun _ => False) → Bx2 V gb a b := fun V hV => HB4.out.fr hV
  have FD := Fr.drew W4 (fun _ => False)
  have hS := hSx _ FD
  refine wp_region_T (fun _ => true) (fun V => Bx2 V gb a b) (fun a0 a' w' => ∃ x y, a' = ((((((((((((((((((((a0.put (some 48) (.pointer (some ⟨gb, 0, none⟩))).put (some 49) (.int .i64 (a.lo))).put (some 50) (.int .i64 (n))).put (some 51) (.int .i64 (a.lo + n))).put (some 52) (.pointer (some ⟨gb, 1, none⟩))).put (some 53) (.int .i64 (a.hi))).put (some 54) (.int .i64 (n))).put (some 55) (.int .i64 (a.hi + n))).put (some 56) (.agg #[.int .i64 (a.lo + n), .int .i64 (a.hi + n)])).put (some 57) (.pointer (some ⟨gb + 1, 0, none⟩))).put (some 58) (.int .i64 (b.lo))).put (some 59) (.int .i64 (n))).put (some 60) (.int .i64 (b.lo + n))).put (some 61) (.pointer (some ⟨gb + 1, 1, none⟩))).put (some 62) (.int .i64 (b.hi))).put (some 63) (.int .i64 (n))).put (some 64) (.int .i64 (b.hi + n))).put (some 65) (.agg #[.int .i64 (b.lo + n), .int .i64 (b.hi + n)])).put (some 7) (.pointer (some ⟨x, 0, none⟩))).put (some 8) (.pointer (some ⟨y, 0, none⟩))) ∧ Bx4 w' gb x y a b (sh n a) (sh n b) ∧ Fr W4 w' (fun _ => False)) (by kernel_rfl) ?_ ?_
  · refine wpAnyK_takeTo 0 (some 48) (.pointer (some ⟨gb, 0, none⟩)) [] rfl rfl (by kernel_rfl) (by kernel_rfl) (by kernel_rfl) (by kernel_rfl) (fun _ _ _ h => ⟨fun h0 => (by cases h0), h.2⟩) hS (Or.inl ⟨rfl, fun w1 hw1 => by go_simp⟩) ?_
    simp only [Act.put, List.setIfInBounds_toArray, List.set_cons_zero, List.set_cons_succ]
    refine wpAnyK_takeTo 1 (some 49) (.int .i64 (a.lo)) [] rfl rfl (by kernel_rfl) (by kernel_rfl) (by kernel_rfl) (by kernel_rfl) (fun _ _ _ h => ⟨fun h0 => (by cases h0), h.2⟩) hS (Or.inl ⟨rfl, fun w1 hw1 => by obtain ⟨⟨x0, x1, _⟩, ⟨x2, x3, _⟩⟩ := hw1; go_simp⟩) ?_
    simp only [Act.put, List.setIfInBounds_toArray, List.set_cons_zero, List.set_cons_succ]
    refine wpAnyK_takeTo 2 (some 50) (.int .i64 (n)) [] rfl rfl (by kernel_rfl) (by kernel_rfl) (by kernel_rfl) (by kernel_rfl) (fun _ _ _ h => ⟨fun h0 => (by cases h0), h.2⟩) hS (Or.inl ⟨rfl, fun w1 hw1 => by go_simp⟩) ?_
    simp only [Act.put, List.setIfInBounds_toArray, List.set_cons_zero, List.set_cons_succ]
    refine wpAnyK_takeTo 3 (some 51) (.int .i64 (a.lo + n)) [] rfl rfl (by kernel_rfl) (by kernel_rfl) (by kernel_rfl) (by kernel_rfl) (fun _ _ _ h => ⟨fun h0 => (by cases h0), h.2⟩) hS (Or.inl ⟨rfl, fun w1 hw1 => by go_simp; first | done | simp only [wa0, wa1, wb0, wb1]⟩) ?_
    simp only [Act.put, List.setIfInBounds_toArray, List.set_cons_zero, List.set_cons_succ]
    refine wpAnyK_takeTo 4 (some 52) (.pointer (some ⟨gb, 1, none⟩)) [] rfl rfl (by kernel_rfl) (by kernel_rfl) (by kernel_rfl) (by kernel_rfl) (fun _ _ _ h => ⟨fun h0 => (by cases h0), h.2⟩) hS (Or.inl ⟨rfl, fun w1 hw1 => by go_simp⟩) ?_
    simp only [Act.put, List.setIfInBounds_toArray, List.set_cons_zero, List.set_cons_succ]
    refine wpAnyK_takeTo 5 (some 53) (.int .i64 (a.hi)) [] rfl rfl (by kernel_rfl) (by kernel_rfl) (by kernel_rfl) (by kernel_rfl) (fun _ _ _ h => ⟨fun h0 => (by cases h0), h.2⟩) hS (Or.inl ⟨rfl, fun w1 hw1 => by obtain ⟨⟨x0, x1, _⟩, ⟨x2, x3, _⟩⟩ := hw1; go_simp⟩) ?_
    simp only [Act.put, List.setIfInBounds_toArray, List.set_cons_zero, List.set_cons_succ]
    refine wpAnyK_takeTo 6 (some 54) (.int .i64 (n)) [] rfl rfl (by kernel_rfl) (by kernel_rfl) (by kernel_rfl) (by kernel_rfl) (fun _ _ _ h => ⟨fun h0 => (by cases h0), h.2⟩) hS (Or.inl ⟨rfl, fun w1 hw1 => by go_simp⟩) ?_
    simp only [Act.put, List.setIfInBounds_toArray, List.set_cons_zero, List.set_cons_succ]
    refine wpAnyK_takeTo 7 (some 55) (.int .i64 (a.hi + n)) [] rfl rfl (by kernel_rfl) (by kernel_rfl) (by kernel_rfl) (by kernel_rfl) (fun _ _ _ h => ⟨fun h0 => (by cases h0), h.2⟩) hS (Or.inl ⟨rfl, fun w1 hw1 => by go_simp; first | done | simp only [wa0, wa1, wb0, wb1]⟩) ?_
    simp only [Act.put, List.setIfInBounds_toArray, List.set_cons_zero, List.set_cons_succ]
    refine wpAnyK_takeTo 8 (some 56) (.agg #[.int .i64 (a.lo + n), .int .i64 (a.hi + n)]) [] rfl rfl (by kernel_rfl) (by kernel_rfl) (by kernel_rfl) (by kernel_rfl) (fun _ _ _ h => ⟨fun h0 => (by cases h0), h.2⟩) hS (Or.inl ⟨rfl, fun w1 hw1 => by go_simp⟩) ?_
    simp only [Act.put, List.setIfInBounds_toArray, List.set_cons_zero, List.set_cons_succ]
    refine wpAnyK_takeTo 9 (some 57) (.pointer (some ⟨gb + 1, 0, none⟩)) [] rfl rfl (by kernel_rfl) (by kernel_rfl) (by kernel_rfl) (by kernel_rfl) (fun _ _ _ h => ⟨fun h0 => (by cases h0), h.2⟩) hS (Or.inl ⟨rfl, fun w1 hw1 => by go_simp⟩) ?_
    simp only [Act.put, List.setIfInBounds_toArray, List.set_cons_zero, List.set_cons_succ]
    refine wpAnyK_takeTo 10 (some 58) (.int .i64 (b.lo)) [] rfl rfl (by kernel_rfl) (by kernel_rfl) (by kernel_rfl) (by kernel_rfl) (fun _ _ _ h => ⟨fun h0 => (by cases h0), h.2⟩) hS (Or.inl ⟨rfl, fun w1 hw1 => by obtain ⟨⟨x0, x1, _⟩, ⟨x2, x3, _⟩⟩ := hw1; go_simp⟩) ?_
    simp only [Act.put, List.setIfInBounds_toArray, List.set_cons_zero, List.set_cons_succ]
    refine wpAnyK_takeTo 11 (some 59) (.int .i64 (n)) [] rfl rfl (by kernel_rfl) (by kernel_rfl) (by kernel_rfl) (by kernel_rfl) (fun _ _ _ h => ⟨fun h0 => (by cases h0), h.2⟩) hS (Or.inl ⟨rfl, fun w1 hw1 => by go_simp⟩) ?_
    simp only [Act.put, List.setIfInBounds_toArray, List.set_cons_zero, List.set_cons_succ]
    refine wpAnyK_takeTo 12 (some 60) (.int .i64 (b.lo + n)) [] rfl rfl (by kernel_rfl) (by kernel_rfl) (by kernel_rfl) (by kernel_rfl) (fun _ _ _ h => ⟨fun h0 => (by cases h0), h.2⟩) hS (Or.inl ⟨rfl, fun w1 hw1 => by go_simp; first | done | simp only [wa0, wa1, wb0, wb1]⟩) ?_
    simp only [Act.put, List.setIfInBounds_toArray, List.set_cons_zero, List.set_cons_succ]
    refine wpAnyK_takeTo 13 (some 61) (.pointer (some ⟨gb + 1, 1, none⟩)) [] rfl rfl (by kernel_rfl) (by kernel_rfl) (by kernel_rfl) (by kernel_rfl) (fun _ _ _ h => ⟨fun h0 => (by cases h0), h.2⟩) hS (Or.inl ⟨rfl, fun w1 hw1 => by go_simp⟩) ?_
    simp only [Act.put, List.setIfInBounds_toArray, List.set_cons_zero, List.set_cons_succ]
    refine wpAnyK_takeTo 14 (some 62) (.int .i64 (b.hi)) [] rfl rfl (by kernel_rfl) (by kernel_rfl) (by kernel_rfl) (by kernel_rfl) (fun _ _ _ h => ⟨fun h0 => (by cases h0), h.2⟩) hS (Or.inl ⟨rfl, fun w1 hw1 => by obtain ⟨⟨x0, x1, _⟩, ⟨x2, x3, _⟩⟩ := hw1; go_simp⟩) ?_
    simp only [Act.put, List.setIfInBounds_toArray, List.set_cons_zero, List.set_cons_succ]
    refine wpAnyK_takeTo 15 (some 63) (.int .i64 (n)) [] rfl rfl (by kernel_rfl) (by kernel_rfl) (by kernel_rfl) (by kernel_rfl) (fun _ _ _ h => ⟨fun h0 => (by cases h0), h.2⟩) hS (Or.inl ⟨rfl, fun w1 hw1 => by go_simp⟩) ?_
    simp only [Act.put, List.setIfInBounds_toArray, List.set_cons_zero, List.set_cons_succ]
    refine wpAnyK_takeTo 16 (some 64) (.int .i64 (b.hi + n)) [] rfl rfl (by kernel_rfl) (by kernel_rfl) (by kernel_rfl) (by kernel_rfl) (fun _ _ _ h => ⟨fun h0 => (by cases h0), h.2⟩) hS (Or.inl ⟨rfl, fun w1 hw1 => by go_simp; first | done | simp only [wa0, wa1, wb0, wb1]⟩) ?_
    simp only [Act.put, List.setIfInBounds_toArray, List.set_cons_zero, List.set_cons_succ]
    refine wpAnyK_takeTo 17 (some 65) (.agg #[.int .i64 (b.lo + n), .int .i64 (b.hi + n)]) [] rfl rfl (by kernel_rfl) (by kernel_rfl) (by kernel_rfl) (by kernel_rfl) (fun _ _ _ h => ⟨fun h0 => (by cases h0), h.2⟩) hS (Or.inl ⟨rfl, fun w1 hw1 => by go_simp⟩) ?_
    simp only [Act.put, List.setIfInBounds_toArray, List.set_cons_zero, List.set_cons_succ]
    refine wpAnyK_two (i := 18) (j := 19) (by kernel_rfl) rfl rfl rfl rfl ?_ ?_
    · refine wp_valD (some 7) rfl (.pointer (some ⟨W4.drew.heap.size, 0, none⟩)) (W4.drew.alloc (.cells #[.int .i64 0, .int .i64 0] 23)) (by go_simp) ?_
      simp only [Act.put, List.setIfInBounds_toArray, List.set_cons_zero, List.set_cons_succ]
      have hS1 := hSx _ ((FD.trans (Fr.alloc W4.drew (.cells #[.int .i64 0, .int .i64 0] 23) (fun _ => False))).mono (Y := fun _ => False) (by simp))
      refine ⟨fun _ => hS1, ?_⟩
      refine wpAnyK_one (i := 19) (by kernel_rfl) rfl rfl ?_
      refine wp_valD (some 8) rfl (.pointer (some ⟨(W4.drew.alloc (.cells #[.int .i64 0, .int .i64 0] 23)).heap.size, 0, none⟩)) ((W4.drew.alloc (.cells #[.int .i64 0, .int .i64 0] 23)).alloc (.cells #[.int .i64 0, .int .i64 0] 23)) (by go_simp) ?_
      simp only [Act.put, List.setIfInBounds_toArray, List.set_cons_zero, List.set_cons_succ]
      have zz := zeros2 W4.drew
      have F2 := ((FD.trans (up_two (w := W4.drew) (o1 := .cells #[.int .i64 0, .int .i64 0] 23) (o2 := .cells #[.int .i64 0, .int .i64 0] 23))).mono (Y := fun _ => False) (by simp) : Fr W4 _ (fun _ => False))
      have hS2 := hSx _ F2
      refine ⟨fun _ => hS2, ?_⟩
      rw [World.size_alloc]
      obtain ⟨ZX, ZY⟩ := zz
      have hbs : W4.heap.size ≤ W4.drew.heap.size := FD.size
      obtain ⟨gx, hgx⟩ : ∃ gx, gx = W4.drew.heap.size := ⟨_, rfl⟩
      obtain ⟨gy, hgy⟩ : ∃ gy, gy = W4.drew.heap.size + 1 := ⟨_, rfl⟩
      rw [← hgy] at ZY ⊢
      rw [← hgx] at ZX ⊢
      have hxy : gx ≠ gy := by omega
      have hx0 : W4.heap.size ≤ gx := by omega
      have hy0 : W4.heap.size ≤ gy := by omega
      clear hgx hgy hS1 hS2
      generalize (W4.drew.alloc (.cells #[.int .i64 0, .int .i64 0] 23)).alloc (.cells #[.int .i64 0, .int .i64 0] 23) = V2 at *
      have y0 := ZX.1
      have y1 := ZX.2.1
      have z0 := ZX.2.2 0
      have z1 := ZX.2.2 1
      refine wpAnyK_one (i := 20) (by kernel_rfl) rfl rfl ?_
      go_simp
      have ZX' := (ZX.set0 (.int .i64 (a.lo + n))).set1 (.int .i64 (a.hi + n))
      have FX : Fr V2 ((V2.setCell ⟨gx, 0, none⟩ (.int .i64 (a.lo + n))).setCell ⟨gx, 1, none⟩ (.int .i64 (a.hi + n))) (fun j => j = gx) := ((Fr.setCell V2 ⟨gx, 0, none⟩ _).trans (Fr.setCell _ ⟨gx, 1, none⟩ _)).mono (fun j _ h => by rcases h with h | h <;> exact h)
      have ZY' := ZY.fr FX (Ne.symm hxy)
      have F3 := (F2.trans FX).mono (Y := fun _ => False) (fun j hj h => by rcases h with h | h; exact h; omega)
      have hS := hSx _ F3
      first | refine ⟨hS, ?_⟩ | refine ⟨fun _ => hS, ?_⟩ | trace_state
      clear y0 y1 z0 z1 FX F2 ZX ZY
      generalize (V2.setCell ⟨gx, 0, none⟩ (.int .i64 (a.lo + n))).setCell ⟨gx, 1, none⟩ (.int .i64 (a.hi + n)) = V3 at *
      have y0 := ZY'.1
      have y1 := ZY'.2.1
      have z0 := ZY'.2.2 0
      have z1 := ZY'.2.2 1
      refine wpAnyK_one (i := 21) (by kernel_rfl) rfl rfl ?_
      go_simp
      have ZY2 := (ZY'.set0 (.int .i64 (b.lo + n))).set1 (.int .i64 (b.hi + n))
      have FY : Fr V3 ((V3.setCell ⟨gy, 0, none⟩ (.int .i64 (b.lo + n))).setCell ⟨gy, 1, none⟩ (.int .i64 (b.hi + n))) (fun j => j = gy) := ((Fr.setCell V3 ⟨gy, 0, none⟩ _).trans (Fr.setCell _ ⟨gy, 1, none⟩ _)).mono (fun j _ h => by rcases h with h | h <;> exact h)
      have ZX2 := ZX'.fr FY hxy
      have F4 := (F3.trans FY).mono (Y := fun _ => False) (fun j hj h => by rcases h with h | h; exact h; omega)
      have hS := hSx _ F4
      first | refine ⟨hS, ?_⟩ | refine ⟨fun _ => hS, ?_⟩ | trace_state
      refine wpAnyK_done (by kernel_rfl) ⟨fun _ => ⟨gx, gy, ?_, ⟨HB4.out.fr F4, ZX2, ZY2⟩, F4⟩, fun h => absurd rfl h⟩ _
      rfl
    · refine wp_valD (some 8) rfl (.pointer (some ⟨W4.drew.heap.size, 0, none⟩)) (W4.drew.alloc (.cells #[.int .i64 0, .int .i64 0] 23)) (by go_simp) ?_
      simp only [Act.put, List.setIfInBounds_toArray, List.set_cons_zero, List.set_cons_succ]
      have hS1 := hSx _ ((FD.trans (Fr.alloc W4.drew (.cells #[.int .i64 0, .int .i64 0] 23) (fun _ => False))).mono (Y := fun _ => False) (by simp))
      refine ⟨fun _ => hS1, ?_⟩
      refine wpAnyK_one (i := 18) (by kernel_rfl) rfl rfl ?_
      refine wp_valD (some 7) rfl (.pointer (some ⟨(W4.drew.alloc (.cells #[.int .i64 0, .int .i64 0] 23)).heap.size, 0, none⟩)) ((W4.drew.alloc (.cells #[.int .i64 0, .int .i64 0] 23)).alloc (.cells #[.int .i64 0, .int .i64 0] 23)) (by go_simp) ?_
      simp only [Act.put, List.setIfInBounds_toArray, List.set_cons_zero, List.set_cons_succ]
      have zz := zeros2 W4.drew
      have F2 := ((FD.trans (up_two (w := W4.drew) (o1 := .cells #[.int .i64 0, .int .i64 0] 23) (o2 := .cells #[.int .i64 0, .int .i64 0] 23))).mono (Y := fun _ => False) (by simp) : Fr W4 _ (fun _ => False))
      have hS2 := hSx _ F2
      refine ⟨fun _ => hS2, ?_⟩
      rw [World.size_alloc]
      obtain ⟨ZY, ZX⟩ := zz
      have hbs : W4.heap.size ≤ W4.drew.heap.size := FD.size
      obtain ⟨gx, hgx⟩ : ∃ gx, gx = W4.drew.heap.size + 1 := ⟨_, rfl⟩
      obtain ⟨gy, hgy⟩ : ∃ gy, gy = W4.drew.heap.size := ⟨_, rfl⟩
      rw [← hgx] at ZX ⊢
      rw [← hgy] at ZY ⊢
      have hxy : gx ≠ gy := by omega
      have hx0 : W4.heap.size ≤ gx := by omega
      have hy0 : W4.heap.size ≤ gy := by omega
      clear hgx hgy hS1 hS2
      generalize (W4.drew.alloc (.cells #[.int .i64 0, .int .i64 0] 23)).alloc (.cells #[.int .i64 0, .int .i64 0] 23) = V2 at *
      have y0 := ZX.1
      have y1 := ZX.2.1
      have z0 := ZX.2.2 0
      have z1 := ZX.2.2 1
      refine wpAnyK_one (i := 20) (by kernel_rfl) rfl rfl ?_
      go_simp
      have ZX' := (ZX.set0 (.int .i64 (a.lo + n))).set1 (.int .i64 (a.hi + n))
      have FX : Fr V2 ((V2.setCell ⟨gx, 0, none⟩ (.int .i64 (a.lo + n))).setCell ⟨gx, 1, none⟩ (.int .i64 (a.hi + n))) (fun j => j = gx) := ((Fr.setCell V2 ⟨gx, 0, none⟩ _).trans (Fr.setCell _ ⟨gx, 1, none⟩ _)).mono (fun j _ h => by rcases h with h | h <;> exact h)
      have ZY' := ZY.fr FX (Ne.symm hxy)
      have F3 := (F2.trans FX).mono (Y := fun _ => False) (fun j hj h => by rcases h with h | h; exact h; omega)
      have hS := hSx _ F3
      first | refine ⟨hS, ?_⟩ | refine ⟨fun _ => hS, ?_⟩ | trace_state
      clear y0 y1 z0 z1 FX F2 ZX ZY
      generalize (V2.setCell ⟨gx, 0, none⟩ (.int .i64 (a.lo + n))).setCell ⟨gx, 1, none⟩ (.int .i64 (a.hi + n)) = V3 at *
      have y0 := ZY'.1
      have y1 := ZY'.2.1
      have z0 := ZY'.2.2 0
      have z1 := ZY'.2.2 1
      refine wpAnyK_one (i := 21) (by kernel_rfl) rfl rfl ?_
      go_simp
      have ZY2 := (ZY'.set0 (.int .i64 (b.lo + n))).set1 (.int .i64 (b.hi + n))
      have FY : Fr V3 ((V3.setCell ⟨gy, 0, none⟩ (.int .i64 (b.lo + n))).setCell ⟨gy, 1, none⟩ (.int .i64 (b.hi + n))) (fun j => j = gy) := ((Fr.setCell V3 ⟨gy, 0, none⟩ _).trans (Fr.setCell _ ⟨gy, 1, none⟩ _)).mono (fun j _ h => by rcases h with h | h <;> exact h)
      have ZX2 := ZX'.fr FY hxy
      have F4 := (F3.trans FY).mono (Y := fun _ => False) (fun j hj h => by rcases h with h | h; exact h; omega)
      have hS := hSx _ F4
      first | refine ⟨hS, ?_⟩ | refine ⟨fun _ => hS, ?_⟩ | trace_state
      refine wpAnyK_done (by kernel_rfl) ⟨fun _ => ⟨gx, gy, ?_, ⟨HB4.out.fr F4, ZX2, ZY2⟩, F4⟩, fun h => absurd rfl h⟩ _
      rfl
  rintro a' W5 ⟨x, y, rfl, hb5, f5⟩
  simp only [Act.put, List.setIfInBounds_toArray, List.set_cons_zero, List.set_cons_succ]
  have HB5 := hide hb5
  have HF5 := hide ((HF3.out.trans f5).mono (Y := fun _ => False) (by simp))
  clear hb5 f5 hSx FD hS HB4 HB3
  have t0 := HB5.out.ab.ta.1
  have t1 := HB5.out.ab.ta.2.1
  have t2 := HB5.out.ab.tb.1
  have t3 := HB5.out.ab.tb.2.1
  go_wp2_with fail
  refine (h1 W5 (HTB.out.fr HF5.out)).mono ?_
  rintro e W6 ⟨rfl, f6⟩
  have HB6 := hide (HB5.out.fr f6)
  have HF6 := hide ((HF5.out.trans f6).mono (Y := fun _ => False) (by simp))
  clear f6 t0 t1 t2 t3 HB5 HF5 h1
  have t0 := HB6.out.tc.1
  have t1 := HB6.out.tc.2.1
  have t2 := HB6.out.td.1
  have t3 := HB6.out.td.2.1
  unfold sh at t0 t1 t2 t3
  go_wp2_with fail
  refine (h2 W6 (HTB.out.fr HF6.out)).mono ?_
  rintro e W7 ⟨rfl, f7⟩
  have HB7 := hide (HB6.out.fr f7)
  have HF7 := hide ((HF6.out.trans f7).mono (Y := fun _ => False) (by simp))
  clear f7 t0 t1 t2 t3 HB6 HF6 h2
  go_wp2_with fail
  have hSx : ∀ V, Fr W7 V (fun _ => False) → Bx4 V gb x y a b (sh n a) (sh n b) := fun V hV => HB7.out.fr hV
  have FD := Fr.drew W7 (fun _ => False)
  have hS := hSx _ FD
  refine wp_region_T (fun _ => true) (fun V => Bx4 V gb x y a b (sh n a) (sh n b)) (fun a0 a' w' => ∃ s1 s2 m1 m2 M, a' = ((((((((((a0.put (some 78) (.agg #[.int .i64 a.lo, .int .i64 a.hi])).put (some 79) (.agg #[.int .i64 b.lo, .int .i64 b.hi])).put (some 80) (.slice (some ⟨s1, 0, none⟩) 1 1)).put (some 81) (m1)).put (some 82) (.agg #[.int .i64 (a.lo + n), .int .i64 (a.hi + n)])).put (some 83) (.agg #[.int .i64 (b.lo + n), .int .i64 (b.hi + n)])).put (some 84) (.slice (some ⟨s2, 0, none⟩) 1 1)).put (some 85) (m2)).put (some 13) (m1)).put (some 14) (m2)) ∧ OwnP w' m1 M ∧ OwnP w' m2 (M.map (sh n)) ∧ (∀ q ∈ M, Right q) ∧ M.length ≤ 2 ∧ Fr W7 w' (fun _ => False)) (by kernel_rfl) ?_ ?_
  · refine wpAnyK_takeTo 0 (some 78) (.agg #[.int .i64 a.lo, .int .i64 a.hi]) [] rfl rfl (by kernel_rfl) (by kernel_rfl) (by kernel_rfl) (by kernel_rfl) (fun _ _ _ h => ⟨fun h0 => (by cases h0), h.2⟩) hS (Or.inl ⟨rfl, fun w1 hw1 => by obtain ⟨⟨⟨x0, x1, _⟩, ⟨x2, x3, _⟩⟩, ⟨x4, x5, _⟩, ⟨x6, x7, _⟩⟩ := hw1; simp only [sh] at x4 x5 x6 x7; go_simp⟩) ?_
    simp only [Act.put, List.setIfInBounds_toArray, List.set_cons_zero, List.set_cons_succ]
    refine wpAnyK_takeTo 1 (some 79) (.agg #[.int .i64 b.lo, .int .i64 b.hi]) [] rfl rfl (by kernel_rfl) (by kernel_rfl) (by kernel_rfl) (by kernel_rfl) (fun _ _ _ h => ⟨fun h0 => (by cases h0), h.2⟩) hS (Or.inl ⟨rfl, fun w1 hw1 => by obtain ⟨⟨⟨x0, x1, _⟩, ⟨x2, x3, _⟩⟩, ⟨x4, x5, _⟩, ⟨x6, x7, _⟩⟩ := hw1; simp only [sh] at x4 x5 x6 x7; go_simp⟩) ?_
    simp only [Act.put, List.setIfInBounds_toArray, List.set_cons_zero, List.set_cons_succ]
    refine wpAnyK_takeTo 4 (some 82) (.agg #[.int .i64 (a.lo + n), .int .i64 (a.hi + n)]) [] rfl rfl (by kernel_rfl) (by kernel_rfl) (by kernel_rfl) (by kernel_rfl) (fun _ _ _ h => ⟨fun h0 => (by cases h0), h.2⟩) hS (Or.inl ⟨rfl, fun w1 hw1 => by obtain ⟨⟨⟨x0, x1, _⟩, ⟨x2, x3, _⟩⟩, ⟨x4, x5, _⟩, ⟨x6, x7, _⟩⟩ := hw1; simp only [sh] at x4 x5 x6 x7; go_simp⟩) ?_
    simp only [Act.put, List.setIfInBounds_toArray, List.set_cons_zero, List.set_cons_succ]
    refine wpAnyK_takeTo 5 (some 83) (.agg #[.int .i64 (b.lo + n), .int .i64 (b.hi + n)]) [] rfl rfl (by kernel_rfl) (by kernel_rfl) (by kernel_rfl) (by kernel_rfl) (fun _ _ _ h => ⟨fun h0 => (by cases h0), h.2⟩) hS (Or.inl ⟨rfl, fun w1 hw1 => by obtain ⟨⟨⟨x0, x1, _⟩, ⟨x2, x3, _⟩⟩, ⟨x4, x5, _⟩, ⟨x6, x7, _⟩⟩ := hw1; simp only [sh] at x4 x5 x6 x7; go_simp⟩) ?_
    simp only [Act.put, List.setIfInBounds_toArray, List.set_cons_zero, List.set_cons_succ]
    refine wpAnyK_two (i := 2) (j := 6) (by kernel_rfl) rfl rfl rfl rfl ?_ ?_
    · refine wp_valD (some 80) rfl (.slice (some ⟨W7.drew.heap.size, 0, none⟩) 1 1) (W7.drew.alloc (.cells #[.int .i64 (b.lo), .int .i64 (b.hi)] 23)) (by go_simp) ?_
      simp only [Act.put, List.setIfInBounds_toArray, List.set_cons_zero, List.set_cons_succ]
      have pp1 := pers_one W7.drew b
      have fa1 := Fr.alloc W7.drew (.cells #[.int .i64 (b.lo), .int .i64 (b.hi)] 23) (fun _ => False)
      have F1 := (FD.trans fa1).mono (Y := fun _ => False) (by simp)
      have hS := hSx _ F1
      refine ⟨fun _ => hS, ?_⟩
      skip
      generalize W7.drew.alloc (.cells #[.int .i64 (b.lo), .int .i64 (b.hi)] 23) = V1 at *
      generalize W7.drew.heap.size = s1 at *
      refine wpAnyK_two (i := 3) (j := 6) (by kernel_rfl) rfl rfl rfl rfl ?_ ?_
      · refine wp_call_to (some 81) rfl 14 #[.agg #[.int .i64 a.lo, .int .i64 a.hi], .slice (some ⟨s1, 0, none⟩) 1 1] (by go_simp) (minus_one a b s1 V1 (pp1)) ?_
        rintro e V2 ⟨m1, M, rfl, o1, i1, f2, _⟩
        have F2 := (F1.trans f2).mono (Y := fun _ => False) (by simp)
        have hS := hSx _ F2
        refine ⟨_, rfl, fun _ => hS, ?_⟩
        simp only [Act.put, List.setIfInBounds_toArray, List.set_cons_zero, List.set_cons_succ]
        refine wpAnyK_one (i := 6) (by kernel_rfl) rfl rfl ?_
        refine wp_valD (some 84) rfl (.slice (some ⟨V2.heap.size, 0, none⟩) 1 1) (V2.alloc (.cells #[.int .i64 (b.lo + n), .int .i64 (b.hi + n)] 23)) (by go_simp) ?_
        simp only [Act.put, List.setIfInBounds_toArray, List.set_cons_zero, List.set_cons_succ]
        have pp3 := pers_one V2 (sh n b)
        have fa3 := Fr.alloc V2 (.cells #[.int .i64 (b.lo + n), .int .i64 (b.hi + n)] 23) (fun _ => False)
        have F3 := (F2.trans fa3).mono (Y := fun _ => False) (by simp)
        have hS := hSx _ F3
        refine ⟨fun _ => hS, ?_⟩
        simp only [sh] at pp3
        generalize V2.alloc (.cells #[.int .i64 (b.lo + n), .int .i64 (b.hi + n)] 23) = V3 at *
        generalize V2.heap.size = s2 at *
        refine wpAnyK_one (i := 7) (by kernel_rfl) rfl rfl ?_
        refine wp_call_to (some 85) rfl 14 #[.agg #[.int .i64 (a.lo + n), .int .i64 (a.hi + n)], .slice (some ⟨s2, 0, none⟩) 1 1] (by go_simp) (minus_one (sh n a) (sh n b) s2 V3 (pp3)) ?_
        rintro e V4 ⟨m2, N, rfl, o2, i2, f4, _⟩
        have F4 := (F3.trans f4).mono (Y := fun _ => False) (by simp)
        have hS := hSx _ F4
        refine ⟨_, rfl, fun _ => hS, ?_⟩
        simp only [Act.put, List.setIfInBounds_toArray, List.set_cons_zero, List.set_cons_succ]
        refine wpAnyK_takeTo 8 (some 13) (m1) [] rfl rfl (by kernel_rfl) (by kernel_rfl) (by kernel_rfl) (by kernel_rfl) (fun _ _ _ h => ⟨fun h0 => (by cases h0), h.2⟩) hS (Or.inl ⟨rfl, fun w1 hw1 => by go_simp⟩) ?_
        simp only [Act.put, List.setIfInBounds_toArray, List.set_cons_zero, List.set_cons_succ]
        refine wpAnyK_takeTo 9 (some 14) (m2) [] rfl rfl (by kernel_rfl) (by kernel_rfl) (by kernel_rfl) (by kernel_rfl) (fun _ _ _ h => ⟨fun h0 => (by cases h0), h.2⟩) hS (Or.inl ⟨rfl, fun w1 hw1 => by go_simp⟩) ?_
        simp only [Act.put, List.setIfInBounds_toArray, List.set_cons_zero, List.set_cons_succ]
        obtain rfl := minus_sh i1 i2 HRA.out HRB.out hn0' hra' hrb'
        refine wpAnyK_done (by kernel_rfl) ⟨fun _ => ⟨s1, s2, m1, m2, M, ?_, (o1.fr fa3 (fun _ _ h => h)).fr f4 (fun _ _ h => h), o2, i1.right, by have := i1.len; simpa using this, F4⟩, fun h => absurd rfl h⟩ _
        rfl
      · refine wp_valD (some 84) rfl (.slice (some ⟨V1.heap.size, 0, none⟩) 1 1) (V1.alloc (.cells #[.int .i64 (b.lo + n), .int .i64 (b.hi + n)] 23)) (by go_simp) ?_
        simp only [Act.put, List.setIfInBounds_toArray, List.set_cons_zero, List.set_cons_succ]
        have pp2 := pers_one V1 (sh n b)
        have fa2 := Fr.alloc V1 (.cells #[.int .i64 (b.lo + n), .int .i64 (b.hi + n)] 23) (fun _ => False)
        have F2 := (F1.trans fa2).mono (Y := fun _ => False) (by simp)
        have hS := hSx _ F2
        refine ⟨fun _ => hS, ?_⟩
        simp only [sh] at pp2
        generalize V1.alloc (.cells #[.int .i64 (b.lo + n), .int .i64 (b.hi + n)] 23) = V2 at *
        generalize V1.heap.size = s2 at *
        refine wpAnyK_one (i := 3) (by kernel_rfl) rfl rfl ?_
        refine wp_call_to (some 81) rfl 14 #[.agg #[.int .i64 a.lo, .int .i64 a.hi], .slice (some ⟨s1, 0, none⟩) 1 1] (by go_simp) (minus_one a b s1 V2 ((pp1.fr fa2 (fun _ _ _ _ h => h)))) ?_
        rintro e V3 ⟨m1, M, rfl, o1, i1, f3, _⟩
        have F3 := (F2.trans f3).mono (Y := fun _ => False) (by simp)
        have hS := hSx _ F3
        refine ⟨_, rfl, fun _ => hS, ?_⟩
        simp only [Act.put, List.setIfInBounds_toArray, List.set_cons_zero, List.set_cons_succ]
        refine wpAnyK_one (i := 7) (by kernel_rfl) rfl rfl ?_
        refine wp_call_to (some 85) rfl 14 #[.agg #[.int .i64 (a.lo + n), .int .i64 (a.hi + n)], .slice (some ⟨s2, 0, none⟩) 1 1] (by go_simp) (minus_one (sh n a) (sh n b) s2 V3 ((pp2.fr f3 (fun _ _ _ _ h => h)))) ?_
        rintro e V4 ⟨m2, N, rfl, o2, i2, f4, _⟩
        have F4 := (F3.trans f4).mono (Y := fun _ => False) (by simp)
        have hS := hSx _ F4
        refine ⟨_, rfl, fun _ => hS, ?_⟩
        simp only [Act.put, List.setIfInBounds_toArray, List.set_cons_zero, List.set_cons_succ]
        refine wpAnyK_takeTo 8 (some 13) (m1) [] rfl rfl (by kernel_rfl) (by kernel_rfl) (by kernel_rfl) (by kernel_rfl) (fun _ _ _ h => ⟨fun h0 => (by cases h0), h.2⟩) hS (Or.inl ⟨rfl, fun w1 hw1 => by go_simp⟩) ?_
        simp only [Act.put, List.setIfInBounds_toArray, List.set_cons_zero, List.set_cons_succ]
        refine wpAnyK_takeTo 9 (some 14) (m2) [] rfl rfl (by kernel_rfl) (by kernel_rfl) (by kernel_rfl) (by kernel_rfl) (fun _ _ _ h => ⟨fun h0 => (by cases h0), h.2⟩) hS (Or.inl ⟨rfl, fun w1 hw1 => by go_simp⟩) ?_
        simp only [Act.put, List.setIfInBounds_toArray, List.set_cons_zero, List.set_cons_succ]
        obtain rfl := minus_sh i1 i2 HRA.out HRB.out hn0' hra' hrb'
        refine wpAnyK_done (by kernel_rfl) ⟨fun _ => ⟨s1, s2, m1, m2, M, ?_, o1.fr f4 (fun _ _ h => h), o2, i1.right, by have := i1.len; simpa using this, F4⟩, fun h => absurd rfl h⟩ _
        rfl
    · refine wp_valD (some 84) rfl (.slice (some ⟨W7.drew.heap.size, 0, none⟩) 1 1) (W7.drew.alloc (.cells #[.int .i64 (b.lo + n), .int .i64 (b.hi + n)] 23)) (by go_simp) ?_
      simp only [Act.put, List.setIfInBounds_toArray, List.set_cons_zero, List.set_cons_succ]
      have pp1 := pers_one W7.drew (sh n b)
      have fa1 := Fr.alloc W7.drew (.cells #[.int .i64 (b.lo + n), .int .i64 (b.hi + n)] 23) (fun _ => False)
      have F1 := (FD.trans fa1).mono (Y := fun _ => False) (by simp)
      have hS := hSx _ F1
      refine ⟨fun _ => hS, ?_⟩
      simp only [sh] at pp1
      generalize W7.drew.alloc (.cells #[.int .i64 (b.lo + n), .int .i64 (b.hi + n)] 23) = V1 at *
      generalize W7.drew.heap.size = s2 at *
      refine wpAnyK_one (i := 2) (by kernel_rfl) rfl rfl ?_
      refine wp_valD (some 80) rfl (.slice (some ⟨V1.heap.size, 0, none⟩) 1 1) (V1.alloc (.cells #[.int .i64 (b.lo), .int .i64 (b.hi)] 23)) (by go_simp) ?_
      simp only [Act.put, List.setIfInBounds_toArray, List.set_cons_zero, List.set_cons_succ]
      have pp2 := pers_one V1 b
      have fa2 := Fr.alloc V1 (.cells #[.int .i64 (b.lo), .int .i64 (b.hi)] 23) (fun _ => False)
      have F2 := (F1.trans fa2).mono (Y := fun _ => False) (by simp)
      have hS := hSx _ F2
      refine ⟨fun _ => hS, ?_⟩
      skip
      generalize V1.alloc (.cells #[.int .i64 (b.lo), .int .i64 (b.hi)] 23) = V2 at *
      generalize V1.heap.size = s1 at *
      refine wpAnyK_one (i := 3) (by kernel_rfl) rfl rfl ?_
      refine wp_call_to (some 81) rfl 14 #[.agg #[.int .i64 a.lo, .int .i64 a.hi], .slice (some ⟨s1, 0, none⟩) 1 1] (by go_simp) (minus_one a b s1 V2 (pp2)) ?_
      rintro e V3 ⟨m1, M, rfl, o1, i1, f3, _⟩
      have F3 := (F2.trans f3).mono (Y := fun _ => False) (by simp)
      have hS := hSx _ F3
      refine ⟨_, rfl, fun _ => hS, ?_⟩
      simp only [Act.put, List.setIfInBounds_toArray, List.set_cons_zero, List.set_cons_succ]
      refine wpAnyK_one (i := 7) (by kernel_rfl) rfl rfl ?_
      refine wp_call_to (some 85) rfl 14 #[.agg #[.int .i64 (a.lo + n), .int .i64 (a.hi + n)], .slice (some ⟨s2, 0, none⟩) 1 1] (by go_simp) (minus_one (sh n a) (sh n b) s2 V3 (((pp1.fr fa2 (fun _ _ _ _ h => h)).fr f3 (fun _ _ _ _ h => h)))) ?_
      rintro e V4 ⟨m2, N, rfl, o2, i2, f4, _⟩
      have F4 := (F3.trans f4).mono (Y := fun _ => False) (by simp)
      have hS := hSx _ F4
      refine ⟨_, rfl, fun _ => hS, ?_⟩
      simp only [Act.put, List.setIfInBounds_toArray, List.set_cons_zero, List.set_cons_succ]
      refine wpAnyK_takeTo 8 (some 13) (m1) [] rfl rfl (by kernel_rfl) (by kernel_rfl) (by kernel_rfl) (by kernel_rfl) (fun _ _ _ h => ⟨fun h0 => (by cases h0), h.2⟩) hS (Or.inl ⟨rfl, fun w1 hw1 => by go_simp⟩) ?_
      simp only [Act.put, List.setIfInBounds_toArray, List.set_cons_zero, List.set_cons_succ]
      refine wpAnyK_takeTo 9 (some 14) (m2) [] rfl rfl (by kernel_rfl) (by kernel_rfl) (by kernel_rfl) (by kernel_rfl) (fun _ _ _ h => ⟨fun h0 => (by cases h0), h.2⟩) hS (Or.inl ⟨rfl, fun w1 hw1 => by go_simp⟩) ?_
      simp only [Act.put, List.setIfInBounds_toArray, List.set_cons_zero, List.set_cons_succ]
      obtain rfl := minus_sh i1 i2 HRA.out HRB.out hn0' hra' hrb'
      refine wpAnyK_done (by kernel_rfl) ⟨fun _ => ⟨s1, s2, m1, m2, M, ?_, o1.fr f4 (fun _ _ h => h), o2, i1.right, by have := i1.len; simpa using this, F4⟩, fun h => absurd rfl h⟩ _
      rfl
  rintro a' W8 ⟨s1, s2, m1, m2, M, rfl, o1, o2, hrM, hlM, f8⟩
  simp only [Act.put, List.setIfInBounds_toArray, List.set_cons_zero, List.set_cons_succ]
  obtain ⟨a1, c1, hm1, _, _⟩ := o1.shape
  obtain ⟨a2, c2, hm2, _, _⟩ := o2.shape
  rw [List.length_map] at hm2
  subst hm1 hm2
  have HO1 := hide o1
  have HO2 := hide o2
  have HRM := hide hrM
  have HF8 := hide ((HF7.out.trans f8).mono (Y := fun _ => False) (by simp))
  clear o1 o2 hrM f8 hSx FD hS HB7 HF7
  go_wp2_with fail
  go_loopw [102] (fun i wr => ∃ k : Nat, k ≤ M.length ∧ i = .int .i64 k ∧ Fr W8 wr (fun _ => False)) (fun i _ => M.length - (intOf i).toNat)
  case atStart => exact ⟨0, by omega, rfl, Fr.refl _ _⟩
  case round =>
    rename World => W
    obtain ⟨k, hk, rfl, hf⟩ := hrel
    have HF := hide hf
    clear hf
    by_cases hlt : k < M.length
    · obtain ⟨q, hq⟩ : ∃ q, M[k]? = some q := ⟨_, List.getElem?_eq_getElem hlt⟩
      have hrq := HRM.out q (List.mem_of_getElem? hq)
      unfold Right at hrq
      have FD : Fr W8 W.drew (fun _ => False) := (HF.out.trans (Fr.drew W (fun _ => False))).mono (by simp)
      obtain ⟨g1, o1', rfl, d0, d1⟩ := (HO1.out.fr FD (fun _ _ h => h)).pers.get (Fr.refl _ _) k q hq
      obtain ⟨g2, o2', rfl, d2, d3⟩ := (HO2.out.fr FD (fun _ _ h => h)).pers.get (Fr.refl _ _) k (sh n q) (by rw [List.getElem?_map, hq]; rfl)
      unfold sh at d2 d3
      have hS := And.intro d0 (And.intro d1 (And.intro d2 d3))
      have wq0 : IntKind.i64.wrap (q.lo + n) = q.lo + n := by rw [IntKind.wrap_i64]; omega
      have wq1 : IntKind.i64.wrap (q.hi + n) = q.hi + n := by rw [IntKind.wrap_i64]; omega
      have HFD := hide FD
      clear hq FD d0 d1 d2 d3
      go_wp2_with fail
      refine wp_region_K (fun _ => true) (fun V => V.cell? ⟨g1, o1' + k * 2, none⟩ = some (.int .i64 q.lo) ∧ V.cell? ⟨g1, o1' + k * 2 + 1, none⟩ = some (.int .i64 q.hi) ∧ V.cell? ⟨g2, o2' + k * 2, none⟩ = some (.int .i64 (q.lo + n)) ∧ V.cell? ⟨g2, o2' + k * 2 + 1, none⟩ = some (.int .i64 (q.hi + n))) (by kernel_rfl) ?_
      refine wpAnyK_takeTo 0 (some 105) (.slice (some ⟨g1, o1', none⟩) M.length c1) [] rfl rfl (by kernel_rfl) (by kernel_rfl) (by kernel_rfl) (by kernel_rfl) (fun _ _ _ h => h) hS (Or.inl ⟨rfl, fun w1 hw1 => by go_simp⟩) ?_
      simp only [Act.put, List.setIfInBounds_toArray, List.set_cons_zero, List.set_cons_succ]
      refine wpAnyK_takeTo 1 (some 106) (.int .i64 (k : Int)) [] rfl rfl (by kernel_rfl) (by kernel_rfl) (by kernel_rfl) (by kernel_rfl) (fun _ _ _ h => h) hS (Or.inl ⟨rfl, fun w1 hw1 => by go_simp⟩) ?_
      simp only [Act.put, List.setIfInBounds_toArray, List.set_cons_zero, List.set_cons_succ]
      refine wpAnyK_takeTo 2 (some 107) (.pointer (some ⟨g1, o1' + k * 2, none⟩)) [] rfl rfl (by kernel_rfl) (by kernel_rfl) (by kernel_rfl) (by kernel_rfl) (fun _ _ _ h => h) hS (Or.inl ⟨rfl, fun w1 hw1 => by go_simp; first | done | (intro h; omega)⟩) ?_
      simp only [Act.put, List.setIfInBounds_toArray, List.set_cons_zero, List.set_cons_succ]
      refine wpAnyK_takeTo 3 (some 108) (.pointer (some ⟨g1, o1' + k * 2, none⟩)) [] rfl rfl (by kernel_rfl) (by kernel_rfl) (by kernel_rfl) (by kernel_rfl) (fun _ _ _ h => h) hS (Or.inl ⟨rfl, fun w1 hw1 => by go_simp⟩) ?_
      simp only [Act.put, List.setIfInBounds_toArray, List.set_cons_zero, List.set_cons_succ]
      refine wpAnyK_takeTo 4 (some 109) (.int .i64 (q.lo)) [] rfl rfl (by kernel_rfl) (by kernel_rfl) (by kernel_rfl) (by kernel_rfl) (fun _ _ _ h => h) hS (Or.inl ⟨rfl, fun w1 hw1 => by obtain ⟨x0, x1, x2, x3⟩ := hw1; go_simp⟩) ?_
      simp only [Act.put, List.setIfInBounds_toArray, List.set_cons_zero, List.set_cons_succ]
      refine wpAnyK_takeTo 5 (some 110) (.int .i64 (n)) [] rfl rfl (by kernel_rfl) (by kernel_rfl) (by kernel_rfl) (by kernel_rfl) (fun _ _ _ h => h) hS (Or.inl ⟨rfl, fun w1 hw1 => by go_simp⟩) ?_
      simp only [Act.put, List.setIfInBounds_toArray, List.set_cons_zero, List.set_cons_succ]
      refine wpAnyK_takeTo 6 (some 111) (.int .i64 (q.lo + n)) [] rfl rfl (by kernel_rfl) (by kernel_rfl) (by kernel_rfl) (by kernel_rfl) (fun _ _ _ h => h) hS (Or.inl ⟨rfl, fun w1 hw1 => by go_simp; first | done | simp only [wq0, wq1]⟩) ?_
      simp only [Act.put, List.setIfInBounds_toArray, List.set_cons_zero, List.set_cons_succ]
      refine wpAnyK_takeTo 7 (some 112) (.slice (some ⟨g2, o2', none⟩) M.length c2) [] rfl rfl (by kernel_rfl) (by kernel_rfl) (by kernel_rfl) (by kernel_rfl) (fun _ _ _ h => h) hS (Or.inl ⟨rfl, fun w1 hw1 => by go_simp⟩) ?_
      simp only [Act.put, List.setIfInBounds_toArray, List.set_cons_zero, List.set_cons_succ]
      refine wpAnyK_takeTo 8 (some 113) (.int .i64 (k : Int)) [] rfl rfl (by kernel_rfl) (by kernel_rfl) (by kernel_rfl) (by kernel_rfl) (fun _ _ _ h => h) hS (Or.inl ⟨rfl, fun w1 hw1 => by go_simp⟩) ?_
      simp only [Act.put, List.setIfInBounds_toArray, List.set_cons_zero, List.set_cons_succ]
      refine wpAnyK_takeTo 9 (some 114) (.pointer (some ⟨g2, o2' + k * 2, none⟩)) [] rfl rfl (by kernel_rfl) (by kernel_rfl) (by kernel_rfl) (by kernel_rfl) (fun _ _ _ h => h) hS (Or.inl ⟨rfl, fun w1 hw1 => by go_simp; first | done | (intro h; omega)⟩) ?_
      simp only [Act.put, List.setIfInBounds_toArray, List.set_cons_zero, List.set_cons_succ]
      refine wpAnyK_takeTo 10 (some 115) (.pointer (some ⟨g2, o2' + k * 2, none⟩)) [] rfl rfl (by kernel_rfl) (by kernel_rfl) (by kernel_rfl) (by kernel_rfl) (fun _ _ _ h => h) hS (Or.inl ⟨rfl, fun w1 hw1 => by go_simp⟩) ?_
      simp only [Act.put, List.setIfInBounds_toArray, List.set_cons_zero, List.set_cons_succ]
      refine wpAnyK_takeTo 11 (some 116) (.int .i64 (q.lo + n)) [] rfl rfl (by kernel_rfl) (by kernel_rfl) (by kernel_rfl) (by kernel_rfl) (fun _ _ _ h => h) hS (Or.inl ⟨rfl, fun w1 hw1 => by obtain ⟨x0, x1, x2, x3⟩ := hw1; go_simp⟩) ?_
      simp only [Act.put, List.setIfInBounds_toArray, List.set_cons_zero, List.set_cons_succ]
      refine wpAnyK_takeTo 12 (some 117) (.bool false) [] rfl rfl (by kernel_rfl) (by kernel_rfl) (by kernel_rfl) (by kernel_rfl) (fun _ _ _ h => h) hS (Or.inl ⟨rfl, fun w1 hw1 => by go_simp⟩) ?_
      simp only [Act.put, List.setIfInBounds_toArray, List.set_cons_zero, List.set_cons_succ]
      refine wpAnyK_takeTo 13 (some 118) (.bool false) [] rfl rfl (by kernel_rfl) (by kernel_rfl) (by kernel_rfl) (by kernel_rfl) (fun _ _ _ h => h) hS (Or.inl ⟨rfl, fun w1 hw1 => by go_simp⟩) ?_
      simp only [Act.put, List.setIfInBounds_toArray, List.set_cons_zero, List.set_cons_succ]
      refine wpAnyK_takeTo 14 (some 119) (.slice (some ⟨g1, o1', none⟩) M.length c1) [] rfl rfl (by kernel_rfl) (by kernel_rfl) (by kernel_rfl) (by kernel_rfl) (fun _ _ _ h => h) hS (Or.inl ⟨rfl, fun w1 hw1 => by go_simp⟩) ?_
      simp only [Act.put, List.setIfInBounds_toArray, List.set_cons_zero, List.set_cons_succ]
      refine wpAnyK_takeTo 15 (some 120) (.int .i64 (k : Int)) [] rfl rfl (by kernel_rfl) (by kernel_rfl) (by kernel_rfl) (by kernel_rfl) (fun _ _ _ h => h) hS (Or.inl ⟨rfl, fun w1 hw1 => by go_simp⟩) ?_
      simp only [Act.put, List.setIfInBounds_toArray, List.set_cons_zero, List.set_cons_succ]
      refine wpAnyK_takeTo 16 (some 121) (.pointer (some ⟨g1, o1' + k * 2, none⟩)) [] rfl rfl (by kernel_rfl) (by kernel_rfl) (by kernel_rfl) (by kernel_rfl) (fun _ _ _ h => h) hS (Or.inl ⟨rfl, fun w1 hw1 => by go_simp; first | done | (intro h; omega)⟩) ?_
      simp only [Act.put, List.setIfInBounds_toArray, List.set_cons_zero, List.set_cons_succ]
      refine wpAnyK_takeTo 17 (some 122) (.pointer (some ⟨g1, o1' + k * 2 + 1, none⟩)) [] rfl rfl (by kernel_rfl) (by kernel_rfl) (by kernel_rfl) (by kernel_rfl) (fun _ _ _ h => h) hS (Or.inl ⟨rfl, fun w1 hw1 => by go_simp⟩) ?_
      simp only [Act.put, List.setIfInBounds_toArray, List.set_cons_zero, List.set_cons_succ]
      refine wpAnyK_takeTo 18 (some 123) (.int .i64 (q.hi)) [] rfl rfl (by kernel_rfl) (by kernel_rfl) (by kernel_rfl) (by kernel_rfl) (fun _ _ _ h => h) hS (Or.inl ⟨rfl, fun w1 hw1 => by obtain ⟨x0, x1, x2, x3⟩ := hw1; go_simp⟩) ?_
      simp only [Act.put, List.setIfInBounds_toArray, List.set_cons_zero, List.set_cons_succ]
      refine wpAnyK_takeTo 19 (some 124) (.int .i64 (n)) [] rfl rfl (by kernel_rfl) (by kernel_rfl) (by kernel_rfl) (by kernel_rfl) (fun _ _ _ h => h) hS (Or.inl ⟨rfl, fun w1 hw1 => by go_simp⟩) ?_
      simp only [Act.put, List.setIfInBounds_toArray, List.set_cons_zero, List.set_cons_succ]
      refine wpAnyK_takeTo 20 (some 125) (.int .i64 (q.hi + n)) [] rfl rfl (by kernel_rfl) (by kernel_rfl) (by kernel_rfl) (by kernel_rfl) (fun _ _ _ h => h) hS (Or.inl ⟨rfl, fun w1 hw1 => by go_simp; first | done | simp only [wq0, wq1]⟩) ?_
      simp only [Act.put, List.setIfInBounds_toArray, List.set_cons_zero, List.set_cons_succ]
      refine wpAnyK_takeTo 21 (some 126) (.slice (some ⟨g2, o2', none⟩) M.length c2) [] rfl rfl (by kernel_rfl) (by kernel_rfl) (by kernel_rfl) (by kernel_rfl) (fun _ _ _ h => h) hS (Or.inl ⟨rfl, fun w1 hw1 => by go_simp⟩) ?_
      simp only [Act.put, List.setIfInBounds_toArray, List.set_cons_zero, List.set_cons_succ]
      refine wpAnyK_takeTo 22 (some 127) (.int .i64 (k : Int)) [] rfl rfl (by kernel_rfl) (by kernel_rfl) (by kernel_rfl) (by kernel_rfl) (fun _ _ _ h => h) hS (Or.inl ⟨rfl, fun w1 hw1 => by go_simp⟩) ?_
      simp only [Act.put, List.setIfInBounds_toArray, List.set_cons_zero, List.set_cons_succ]
      refine wpAnyK_takeTo 23 (some 128) (.pointer (some ⟨g2, o2' + k * 2, none⟩)) [] rfl rfl (by kernel_rfl) (by kernel_rfl) (by kernel_rfl) (by kernel_rfl) (fun _ _ _ h => h) hS (Or.inl ⟨rfl, fun w1 hw1 => by go_simp; first | done | (intro h; omega)⟩) ?_
      simp only [Act.put, List.setIfInBounds_toArray, List.set_cons_zero, List.set_cons_succ]
      refine wpAnyK_takeTo 24 (some 129) (.pointer (some ⟨g2, o2' + k * 2 + 1, none⟩)) [] rfl rfl (by kernel_rfl) (by kernel_rfl) (by kernel_rfl) (by kernel_rfl) (fun _ _ _ h => h) hS (Or.inl ⟨rfl, fun w1 hw1 => by go_simp⟩) ?_
      simp only [Act.put, List.setIfInBounds_toArray, List.set_cons_zero, List.set_cons_succ]
      refine wpAnyK_takeTo 25 (some 130) (.int .i64 (q.hi + n)) [] rfl rfl (by kernel_rfl) (by kernel_rfl) (by kernel_rfl) (by kernel_rfl) (fun _ _ _ h => h) hS (Or.inl ⟨rfl, fun w1 hw1 => by obtain ⟨x0, x1, x2, x3⟩ := hw1; go_simp⟩) ?_
      simp only [Act.put, List.setIfInBounds_toArray, List.set_cons_zero, List.set_cons_succ]
      refine wpAnyK_takeTo 26 (some 131) (.bool false) [] rfl rfl (by kernel_rfl) (by kernel_rfl) (by kernel_rfl) (by kernel_rfl) (fun _ _ _ h => h) hS (Or.inl ⟨rfl, fun w1 hw1 => by go_simp⟩) ?_
      simp only [Act.put, List.setIfInBounds_toArray, List.set_cons_zero, List.set_cons_succ]
      refine wpAnyK_takeTo 27 (some 132) (.bool false) [] rfl rfl (by kernel_rfl) (by kernel_rfl) (by kernel_rfl) (by kernel_rfl) (fun _ _ _ h => h) hS (Or.inl ⟨rfl, fun w1 hw1 => by go_simp⟩) ?_
      simp only [Act.put, List.setIfInBounds_toArray, List.set_cons_zero, List.set_cons_succ]
      refine wpAnyK_done (by kernel_rfl) ?_ _
      clear hS
      go_wp2
      go_roundw
      case rel => exact ⟨k + 1, by omega, by go_num, HFD.out⟩
      case measure => simp [intOf]; omega
    · have HFE := hide ((HF8.out.trans HF.out).mono (Y := fun _ => False) (by simp))
      go_wp2
      go_ret
      exact ⟨rfl, HFE.out⟩
end Go.Proofs.YtbdpdobaacbkkaaDoor
