/- The document's Encode. -/
import Derived.Test.YtngllfmlfemimaaK
namespace Go.Proofs.Ytngllfmlfemimaa
open Go.RowKit
set_option linter.unusedVariables false

set_option maxRecDepth 100000 in
set_option maxHeartbeats 4000000 in
theorem rencode_any (e : Ent) (w : World) (hr : e.txn ≤ 9223372036854775807) :
    Calls Try.prog 7 #[docV e] w fun x w' => x = .returned (.tuple #[.string (strOf (encB e)), .int .i64 (chk e)]) ∧ Fr w w' (fun _ => False) := by
  have HB := hide (dbox_db w e)
  have FA := Fr.alloc w (.cells #[.int .i64 e.kind, .int .i64 e.txn, .int .i64 e.page, .int .i64 e.slot, .int .i64 e.stamp, .string (strOf e.data)] 32) (fun _ => False)
  have HF := hide FA
  have hck := rcheck_any e
  have c0 := HB.out.c0
  have c1 := HB.out.c1
  have c2 := HB.out.c2
  have c3 := HB.out.c3
  have c4 := HB.out.c4
  have c5 := HB.out.c5
  unfold docV at hck ⊢
  clear FA
  go_enter Try.func7, Try.ntmps7
  go_wp2_with fail
  refine (hck _).mono ?_
  rintro x W1 ⟨rfl, f1⟩
  have HB1 := hide (HB.out.fr f1 (fun h => h))
  have HF1 := hide ((HF.out.trans f1).mono (Y := fun _ => False) (by simp))
  obtain ⟨gb, hgb⟩ : ∃ gb, gb = w.heap.size := ⟨_, rfl⟩
  rw [← hgb] at HB1 ⊢
  clear f1 c0 c1 c2 c3 c4 c5 hck HB HF hgb
  by_cases hk : chk e = 0
  · have G := chk_good e hk
    have HK := hide hk
    have HE := hide (show encB e = encE e by simp [encB, hk])
    rw [hk]
    obtain ⟨k, hkk⟩ : ∃ k : Nat, e.kind = k := ⟨e.kind.toNat, by have := G.kind; omega⟩
    obtain ⟨t, htt⟩ : ∃ t : Nat, e.txn = t := ⟨e.txn.toNat, by have := G.txn; omega⟩
    obtain ⟨p, hpp⟩ : ∃ p : Nat, e.page = p := ⟨e.page.toNat, by have := G.page; omega⟩
    obtain ⟨s, hss⟩ : ∃ s : Nat, e.slot = s := ⟨e.slot.toNat, by have := G.slot; omega⟩
    obtain ⟨m, hmm⟩ : ∃ m : Nat, e.stamp = m := ⟨e.stamp.toNat, by have := G.stamp; omega⟩
    have HN := hide (show e.kind.toNat = k ∧ e.txn.toNat = t ∧ e.page.toNat = p ∧ e.slot.toNat = s ∧ e.stamp.toNat = m by omega)
    have hlen := G.len
    have g1 := G.kind
    have g3 := G.page
    have g4 := G.slot
    have g5 := G.stamp
    rw [hkk] at g1
    rw [hpp] at g3
    rw [hss] at g4
    rw [hmm] at g5
    rw [htt] at hr
    rw [hkk, htt, hpp, hss, hmm] at HB1 ⊢
    have HKK := hide hkk
    have w0 : IntKind.u64.wrap (k : Int) = k := by rw [IntKind.wrap_u64]; omega
    have w1 : IntKind.u64.wrap (t : Int) = t := by rw [IntKind.wrap_u64]; omega
    have w2 : IntKind.u64.wrap (p : Int) = p := by rw [IntKind.wrap_u64]; omega
    have w3 : IntKind.u64.wrap (s : Int) = s := by rw [IntKind.wrap_u64]; omega
    have w4 : IntKind.u64.wrap (m : Int) = m := by rw [IntKind.wrap_u64]; omega
    clear G hk hkk htt hpp hss hmm
    go_wp2_with fail
    have hSx : ∀ V, Fr W1 V (fun _ => False) → Six V gb (.int .i64 (k : Int)) (.int .i64 (t : Int)) (.int .i64 (p : Int)) (.int .i64 (s : Int)) (.int .i64 (m : Int)) (.string (strOf e.data)) := fun V hV => HB1.out.fr hV (fun h => h)
    have FD := Fr.drew W1 (fun _ => False)
    have hS := hSx _ FD
    refine wp_region_K (fun _ => true) (fun V => Six V gb (.int .i64 (k : Int)) (.int .i64 (t : Int)) (.int .i64 (p : Int)) (.int .i64 (s : Int)) (.int .i64 (m : Int)) (.string (strOf e.data))) (by kernel_rfl) ?_
    refine wpAnyK_takeTo 0 (some 11) (.pointer (some ⟨gb, 0, none⟩)) [] rfl rfl (by kernel_rfl) (by kernel_rfl) (by kernel_rfl) (by kernel_rfl) (fun _ _ _ h => h) hS (Or.inl ⟨rfl, fun w1 hw1 => by go_simp⟩) ?_
    simp only [Act.put, List.setIfInBounds_toArray, List.set_cons_zero, List.set_cons_succ]
    refine wpAnyK_takeTo 1 (some 12) (.int .i64 (k : Int)) [] rfl rfl (by kernel_rfl) (by kernel_rfl) (by kernel_rfl) (by kernel_rfl) (fun _ _ _ h => h) hS (Or.inl ⟨rfl, fun w1 hw1 => by obtain ⟨x0, x1, x2, x3, x4, x5, _⟩ := hw1; go_simp⟩) ?_
    simp only [Act.put, List.setIfInBounds_toArray, List.set_cons_zero, List.set_cons_succ]
    refine wpAnyK_takeTo 2 (some 13) (.int .u64 (k : Int)) [] rfl rfl (by kernel_rfl) (by kernel_rfl) (by kernel_rfl) (by kernel_rfl) (fun _ _ _ h => h) hS (Or.inl ⟨rfl, fun w1 hw1 => by go_simp; first | done | simp only [w0, w1, w2, w3, w4]⟩) ?_
    simp only [Act.put, List.setIfInBounds_toArray, List.set_cons_zero, List.set_cons_succ]
    refine wpAnyK_takeTo 4 (some 15) (.pointer (some ⟨gb, 1, none⟩)) [] rfl rfl (by kernel_rfl) (by kernel_rfl) (by kernel_rfl) (by kernel_rfl) (fun _ _ _ h => h) hS (Or.inl ⟨rfl, fun w1 hw1 => by go_simp⟩) ?_
    simp only [Act.put, List.setIfInBounds_toArray, List.set_cons_zero, List.set_cons_succ]
    refine wpAnyK_takeTo 5 (some 16) (.int .i64 (t : Int)) [] rfl rfl (by kernel_rfl) (by kernel_rfl) (by kernel_rfl) (by kernel_rfl) (fun _ _ _ h => h) hS (Or.inl ⟨rfl, fun w1 hw1 => by obtain ⟨x0, x1, x2, x3, x4, x5, _⟩ := hw1; go_simp⟩) ?_
    simp only [Act.put, List.setIfInBounds_toArray, List.set_cons_zero, List.set_cons_succ]
    refine wpAnyK_takeTo 6 (some 17) (.int .u64 (t : Int)) [] rfl rfl (by kernel_rfl) (by kernel_rfl) (by kernel_rfl) (by kernel_rfl) (fun _ _ _ h => h) hS (Or.inl ⟨rfl, fun w1 hw1 => by go_simp; first | done | simp only [w0, w1, w2, w3, w4]⟩) ?_
    simp only [Act.put, List.setIfInBounds_toArray, List.set_cons_zero, List.set_cons_succ]
    refine wpAnyK_one (i := 3) (by kernel_rfl) rfl rfl ?_
    refine wp_call_to (some 14) rfl 14 #[.int .u64 (k : Int), .int .i64 1] (by go_simp) (number_ref k (by omega) 1 1 (by rfl) W1.drew) ?_
    rintro x V1 ⟨rfl, g1⟩
    have G1 : Fr W1 V1 (fun _ => False) := (FD.trans g1).mono (by simp)
    have hS := hSx V1 G1
    refine ⟨_, rfl, fun _ => hS, ?_⟩
    simp only [Act.put, List.setIfInBounds_toArray, List.set_cons_zero, List.set_cons_succ]
    refine wpAnyK_one (i := 7) (by kernel_rfl) rfl rfl ?_
    refine wp_call_to (some 18) rfl 14 #[.int .u64 (t : Int), .int .i64 8] (by go_simp) (number_ref t (by omega) 8 8 (by rfl) V1) ?_
    rintro x V2 ⟨rfl, g2⟩
    have G2 : Fr W1 V2 (fun _ => False) := (G1.trans g2).mono (by simp)
    have hS := hSx V2 G2
    refine ⟨_, rfl, fun _ => hS, ?_⟩
    simp only [Act.put, List.setIfInBounds_toArray, List.set_cons_zero, List.set_cons_succ]
    refine wpAnyK_takeTo 8 (some 19) (.string (strOf (numB k 1 ++ numB t 8))) [] rfl rfl (by kernel_rfl) (by kernel_rfl) (by kernel_rfl) (by kernel_rfl) (fun _ _ _ h => h) hS (Or.inl ⟨rfl, fun w1 hw1 => exec_concat 9 9 (.tmp 14) (.tmp 18) rfl rfl rfl (by simp [length_numB])⟩) ?_
    simp only [Act.put, List.setIfInBounds_toArray, List.set_cons_zero, List.set_cons_succ]
    refine wpAnyK_takeTo 9 (some 5) (.string (strOf (numB k 1 ++ numB t 8))) [] rfl rfl (by kernel_rfl) (by kernel_rfl) (by kernel_rfl) (by kernel_rfl) (fun _ _ _ h => h) hS (Or.inl ⟨rfl, fun w1 hw1 => by go_simp⟩) ?_
    simp only [Act.put, List.setIfInBounds_toArray, List.set_cons_zero, List.set_cons_succ]
    refine wpAnyK_done (by kernel_rfl) ?_ _
    have HB3 := hide (HB1.out.fr G2 (fun h => h))
    have HF3 := hide ((HF1.out.trans G2).mono (Y := fun _ => False) (by simp))
    clear hS hSx FD G1 G2 g1 g2 HB1 HF1
    obtain ⟨W3, hW3⟩ : ∃ W3, W3 = V2 := ⟨_, rfl⟩
    subst hW3
    have c0 := HB3.out.c0
    by_cases hk3 : k = 3
    · subst hk3
      have c4 := HB3.out.c4
      go_wp2_with fail
      refine (number_ref m (by omega) 8 8 (by rfl) W3).mono ?_
      rintro x W4 ⟨rfl, f4⟩
      have HF4 := hide ((HF3.out.trans f4).mono (Y := fun _ => False) (by simp))
      clear f4
      go_wp2_with (refine wpList_val rfl 28 rfl (.string (strOf (numB 3 1 ++ numB t 8 ++ numB m 8))) _ (exec_concat 9 9 (.tmp 23) (.tmp 27) rfl rfl rfl (by simp [length_numB])) ?_)
      go_ret2
      have HEC : encB e = numB 3 1 ++ (numB t 8 ++ numB m 8) := by rw [HE.out, encE, HN.out.1, HN.out.2.1, HN.out.2.2.2.2, if_pos (by rw [HKK.out]; rfl), List.append_assoc]
      exact ⟨by rw [HK.out, HEC]; rfl, HF4.out⟩
    · go_wp2_with fail
      have hSx : ∀ V, Fr W3 V (fun _ => False) → Six V gb (.int .i64 (k : Int)) (.int .i64 (t : Int)) (.int .i64 (p : Int)) (.int .i64 (s : Int)) (.int .i64 (m : Int)) (.string (strOf e.data)) := fun V hV => HB3.out.fr hV (fun h => h)
      have FD := Fr.drew W3 (fun _ => False)
      have hS := hSx _ FD
      refine wp_region_K (fun _ => true) (fun V => Six V gb (.int .i64 (k : Int)) (.int .i64 (t : Int)) (.int .i64 (p : Int)) (.int .i64 (s : Int)) (.int .i64 (m : Int)) (.string (strOf e.data))) (by kernel_rfl) ?_
      refine wpAnyK_takeTo 0 (some 29) (.string (strOf (numB k 1 ++ numB t 8))) [] rfl rfl (by kernel_rfl) (by kernel_rfl) (by kernel_rfl) (by kernel_rfl) (fun _ _ _ h => h) hS (Or.inl ⟨rfl, fun w1 hw1 => by go_simp⟩) ?_
      simp only [Act.put, List.setIfInBounds_toArray, List.set_cons_zero, List.set_cons_succ]
      refine wpAnyK_takeTo 1 (some 30) (.pointer (some ⟨gb, 2, none⟩)) [] rfl rfl (by kernel_rfl) (by kernel_rfl) (by kernel_rfl) (by kernel_rfl) (fun _ _ _ h => h) hS (Or.inl ⟨rfl, fun w1 hw1 => by go_simp⟩) ?_
      simp only [Act.put, List.setIfInBounds_toArray, List.set_cons_zero, List.set_cons_succ]
      refine wpAnyK_takeTo 2 (some 31) (.int .i64 (p : Int)) [] rfl rfl (by kernel_rfl) (by kernel_rfl) (by kernel_rfl) (by kernel_rfl) (fun _ _ _ h => h) hS (Or.inl ⟨rfl, fun w1 hw1 => by obtain ⟨x0, x1, x2, x3, x4, x5, _⟩ := hw1; go_simp⟩) ?_
      simp only [Act.put, List.setIfInBounds_toArray, List.set_cons_zero, List.set_cons_succ]
      refine wpAnyK_takeTo 3 (some 32) (.int .u64 (p : Int)) [] rfl rfl (by kernel_rfl) (by kernel_rfl) (by kernel_rfl) (by kernel_rfl) (fun _ _ _ h => h) hS (Or.inl ⟨rfl, fun w1 hw1 => by go_simp; first | done | simp only [w0, w1, w2, w3, w4]⟩) ?_
      simp only [Act.put, List.setIfInBounds_toArray, List.set_cons_zero, List.set_cons_succ]
      refine wpAnyK_takeTo 6 (some 35) (.pointer (some ⟨gb, 3, none⟩)) [] rfl rfl (by kernel_rfl) (by kernel_rfl) (by kernel_rfl) (by kernel_rfl) (fun _ _ _ h => h) hS (Or.inl ⟨rfl, fun w1 hw1 => by go_simp⟩) ?_
      simp only [Act.put, List.setIfInBounds_toArray, List.set_cons_zero, List.set_cons_succ]
      refine wpAnyK_takeTo 7 (some 36) (.int .i64 (s : Int)) [] rfl rfl (by kernel_rfl) (by kernel_rfl) (by kernel_rfl) (by kernel_rfl) (fun _ _ _ h => h) hS (Or.inl ⟨rfl, fun w1 hw1 => by obtain ⟨x0, x1, x2, x3, x4, x5, _⟩ := hw1; go_simp⟩) ?_
      simp only [Act.put, List.setIfInBounds_toArray, List.set_cons_zero, List.set_cons_succ]
      refine wpAnyK_takeTo 8 (some 37) (.int .u64 (s : Int)) [] rfl rfl (by kernel_rfl) (by kernel_rfl) (by kernel_rfl) (by kernel_rfl) (fun _ _ _ h => h) hS (Or.inl ⟨rfl, fun w1 hw1 => by go_simp; first | done | simp only [w0, w1, w2, w3, w4]⟩) ?_
      simp only [Act.put, List.setIfInBounds_toArray, List.set_cons_zero, List.set_cons_succ]
      refine wpAnyK_takeTo 11 (some 40) (.pointer (some ⟨gb, 5, none⟩)) [] rfl rfl (by kernel_rfl) (by kernel_rfl) (by kernel_rfl) (by kernel_rfl) (fun _ _ _ h => h) hS (Or.inl ⟨rfl, fun w1 hw1 => by go_simp⟩) ?_
      simp only [Act.put, List.setIfInBounds_toArray, List.set_cons_zero, List.set_cons_succ]
      refine wpAnyK_takeTo 12 (some 41) (.string (strOf (e.data))) [] rfl rfl (by kernel_rfl) (by kernel_rfl) (by kernel_rfl) (by kernel_rfl) (fun _ _ _ h => h) hS (Or.inl ⟨rfl, fun w1 hw1 => by obtain ⟨x0, x1, x2, x3, x4, x5, _⟩ := hw1; go_simp⟩) ?_
      simp only [Act.put, List.setIfInBounds_toArray, List.set_cons_zero, List.set_cons_succ]
      refine wpAnyK_one (i := 4) (by kernel_rfl) rfl rfl ?_
      refine wp_call_to (some 33) rfl 14 #[.int .u64 (p : Int), .int .i64 2] (by go_simp) (number_ref p (by omega) 2 2 (by rfl) W3.drew) ?_
      rintro x V1 ⟨rfl, g1⟩
      have G1 : Fr W3 V1 (fun _ => False) := (FD.trans g1).mono (by simp)
      have hS := hSx V1 G1
      refine ⟨_, rfl, fun _ => hS, ?_⟩
      simp only [Act.put, List.setIfInBounds_toArray, List.set_cons_zero, List.set_cons_succ]
      refine wpAnyK_takeTo 5 (some 34) (.string (strOf (numB k 1 ++ numB t 8 ++ numB p 2))) [] rfl rfl (by kernel_rfl) (by kernel_rfl) (by kernel_rfl) (by kernel_rfl) (fun _ _ _ h => h) hS (Or.inl ⟨rfl, fun w1 hw1 => exec_concat 9 9 (.tmp 29) (.tmp 33) rfl rfl rfl (by simp [length_numB])⟩) ?_
      simp only [Act.put, List.setIfInBounds_toArray, List.set_cons_zero, List.set_cons_succ]
      refine wpAnyK_one (i := 9) (by kernel_rfl) rfl rfl ?_
      refine wp_call_to (some 38) rfl 14 #[.int .u64 (s : Int), .int .i64 1] (by go_simp) (number_ref s (by omega) 1 1 (by rfl) V1) ?_
      rintro x V2 ⟨rfl, g2⟩
      have G2 : Fr W3 V2 (fun _ => False) := (G1.trans g2).mono (by simp)
      have hS := hSx V2 G2
      refine ⟨_, rfl, fun _ => hS, ?_⟩
      simp only [Act.put, List.setIfInBounds_toArray, List.set_cons_zero, List.set_cons_succ]
      refine wpAnyK_takeTo 10 (some 39) (.string (strOf (numB k 1 ++ numB t 8 ++ numB p 2 ++ numB s 1))) [] rfl rfl (by kernel_rfl) (by kernel_rfl) (by kernel_rfl) (by kernel_rfl) (fun _ _ _ h => h) hS (Or.inl ⟨rfl, fun w1 hw1 => exec_concat 9 9 (.tmp 34) (.tmp 38) rfl rfl rfl (by simp [length_numB])⟩) ?_
      simp only [Act.put, List.setIfInBounds_toArray, List.set_cons_zero, List.set_cons_succ]
      refine wpAnyK_takeTo 13 (some 42) (.string (strOf (numB k 1 ++ numB t 8 ++ numB p 2 ++ numB s 1 ++ e.data))) [] rfl rfl (by kernel_rfl) (by kernel_rfl) (by kernel_rfl) (by kernel_rfl) (fun _ _ _ h => h) hS (Or.inl ⟨rfl, fun w1 hw1 => exec_concat 9 9 (.tmp 39) (.tmp 41) rfl rfl rfl (by simp [length_numB]; omega)⟩) ?_
      simp only [Act.put, List.setIfInBounds_toArray, List.set_cons_zero, List.set_cons_succ]
      refine wpAnyK_takeTo 14 (some 2) (.string (strOf (numB k 1 ++ numB t 8 ++ numB p 2 ++ numB s 1 ++ e.data))) [] rfl rfl (by kernel_rfl) (by kernel_rfl) (by kernel_rfl) (by kernel_rfl) (fun _ _ _ h => h) hS (Or.inl ⟨rfl, fun w1 hw1 => by go_simp⟩) ?_
      simp only [Act.put, List.setIfInBounds_toArray, List.set_cons_zero, List.set_cons_succ]
      refine wpAnyK_takeTo 15 (some 3) (.int .i64 0) [] rfl rfl (by kernel_rfl) (by kernel_rfl) (by kernel_rfl) (by kernel_rfl) (fun _ _ _ h => h) hS (Or.inl ⟨rfl, fun w1 hw1 => by go_simp⟩) ?_
      simp only [Act.put, List.setIfInBounds_toArray, List.set_cons_zero, List.set_cons_succ]
      refine wpAnyK_done (by kernel_rfl) ?_ _
      have HF4 := hide ((HF3.out.trans G2).mono (Y := fun _ => False) (by simp))
      clear hS hSx FD G1 G2 g1 g2
      go_wp2
      go_ret2
      exact ⟨by rw [HK.out, HE.out, encE, HN.out.1, HN.out.2.1, HN.out.2.2.1, HN.out.2.2.2.1, if_neg (by rw [HKK.out]; omega)]; simp only [List.append_assoc]; rfl, HF4.out⟩
  · have HE := hide (show encB e = [] by simp [encB, hk])
    obtain ⟨ck, hck⟩ : ∃ ck, ck = chk e := ⟨_, rfl⟩
    have HK := hide hck
    rw [← hck] at hk ⊢
    clear hck
    go_wp2
    go_ret2
    exact ⟨by rw [← HK.out, HE.out]; rfl, HF1.out⟩
end Go.Proofs.Ytngllfmlfemimaa
