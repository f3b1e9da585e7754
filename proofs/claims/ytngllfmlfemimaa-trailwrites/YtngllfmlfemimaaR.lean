/- The walk of TrailWrites. -/
import Derived.Test.YtngllfmlfemimaaP
import Derived.Test.YtngllfmlfemimaaL
import Derived.Test.YtngllfmlfemimaaM
namespace Go.Proofs.Ytngllfmlfemimaa
open Go.RowKit
set_option linter.unusedVariables false

set_option maxRecDepth 100000 in
set_option maxHeartbeats 8000000 in
theorem writes_walk (e : Ent) (a : Option Addr) (c : Nat) (ab : Option Addr) (n cb : Nat) (l : List UInt8) (w : World) (he : BI w a e.data.length e.data) (hac : a = none → c = 0) (hr : e.txn ≤ 9223372036854775807) (hb : BI w ab n l) (hnc : n ≤ cb) :
    Calls Try.prog 3 #[entV e a c, .slice ab n cb] w fun x w' => x = .returned (.bool true) ∧ Fr w w' (fun _ => False) := by
  have HB := hide (ebox_eb w e (.slice a e.data.length c))
  have FA := Fr.alloc w (.cells #[.int .i64 e.kind, .int .i64 e.txn, .int .i64 e.page, .int .i64 e.slot, .int .i64 e.stamp, .slice a e.data.length c] 24) (fun _ => False)
  have HF := hide FA
  have HBE := hide he
  have HBB := hide hb
  have HAC := hide hac
  have hpl := plain_any e a c
  have hck := check_any e a c
  have hre := rencode_any e
  have hrd := rdecode_any l
  unfold entV at hpl hck
  unfold entV
  clear FA he hb hac
  go_enter Try.func3, Try.ntmps3
  go_wp2_with fail
  refine (awake_any _).mono ?_
  rintro x W1 ⟨rfl, f1⟩
  have HB1 := hide (HB.out.fr f1 (fun h => h))
  have HF1 := hide ((HF.out.trans f1).mono (Y := fun _ => False) (by simp))
  obtain ⟨g2, hg2⟩ : ∃ g2, g2 = w.heap.size := ⟨_, rfl⟩
  rw [← hg2] at HB1 ⊢
  clear f1 HB HF hg2
  have hen := encode_any e a c W1 (HBE.out.fr HF1.out (fun _ _ _ _ h => h)) HAC.out hr
  unfold entV at hen
  have x0 := HB1.out.c0
  have x1 := HB1.out.c1
  have x2 := HB1.out.c2
  have x3 := HB1.out.c3
  have x4 := HB1.out.c4
  have x5 := HB1.out.c5
  go_wp2_with fail
  refine hen.mono ?_
  rintro x W2 ⟨v2, rfl, o2, f2, _⟩
  have HB2 := hide (HB1.out.fr f2 (fun h => h))
  have HF2 := hide ((HF1.out.trans f2).mono (Y := fun _ => False) (by simp))
  obtain ⟨a2, c2, hv2⟩ := o2.shape
  subst hv2
  have HX2 := hide o2.bi
  clear f2 o2 hen HB1 HF1 x0 x1 x2 x3 x4 x5
  have x0 := HB2.out.c0
  have x1 := HB2.out.c1
  have x2 := HB2.out.c2
  have x3 := HB2.out.c3
  have x4 := HB2.out.c4
  have x5 := HB2.out.c5
  go_wp2_with fail
  refine (hpl W2 (HBE.out.fr HF2.out (fun _ _ _ _ h => h))).mono ?_
  rintro x W3 ⟨rfl, f3⟩
  have HB3 := hide (HB2.out.fr f3 (fun h => h))
  have HF3 := hide ((HF2.out.trans f3).mono (Y := fun _ => False) (by simp))
  have HX3 := hide (HX2.out.fr f3 (fun _ _ _ _ h => h))
  clear f3 hpl HB2 HF2 HX2 x0 x1 x2 x3 x4 x5
  go_wp2_with fail
  refine (hre W3 hr).mono ?_
  rintro x W4 ⟨rfl, f4⟩
  have HB4 := hide (HB3.out.fr f4 (fun h => h))
  have HF4 := hide ((HF3.out.trans f4).mono (Y := fun _ => False) (by simp))
  have HX4 := hide (HX3.out.fr f4 (fun _ _ _ _ h => h))
  clear f4 hre HB3 HF3 HX3
  go_wp2_with fail
  refine (decode_any ab n cb l W4 (HBB.out.fr HF4.out (fun _ _ _ _ h => h)) hnc).mono ?_
  rintro x W6 ⟨a6, c6, rfl, hb6, hac6, f6⟩
  obtain ⟨z, hz⟩ : ∃ z, z = decE l := ⟨_, rfl⟩
  rw [← hz] at hb6 hrd ⊢
  clear hz
  have FA7 := Fr.alloc W6 (.cells #[.int .i64 z.kind, .int .i64 z.txn, .int .i64 z.page, .int .i64 z.slot, .int .i64 z.stamp, .slice a6 z.data.length c6] 24) (fun _ => False)
  have FB7 := (f6.trans FA7).mono (Y := fun _ => False) (by simp)
  have HB7 := hide (HB4.out.fr FB7 (fun h => h))
  have HF7 := hide ((HF4.out.trans FB7).mono (Y := fun _ => False) (by simp))
  have HX7 := hide (HX4.out.fr FB7 (fun _ _ _ _ h => h))
  have HZ7 := hide (ebox_eb W6 z (.slice a6 z.data.length c6))
  have HBZ7 := hide (hb6.fr FA7 (fun _ _ _ _ h => h))
  unfold ebox at HZ7
  unfold entV
  unfold docV at hrd
  have s1 := run_string _ ab n cb l (HBB.out.fr HF7.out (fun _ _ _ _ h => h)).bin
  clear FA7 FB7 f6 hb6 hac6 HB4 HF4 HX4
  go_wp2_with fail
  obtain ⟨W7, hW7⟩ : ∃ W7, W7 = W6.alloc (.cells #[.int .i64 z.kind, .int .i64 z.txn, .int .i64 z.page, .int .i64 z.slot, .int .i64 z.stamp, .slice a6 z.data.length c6] 24) := ⟨_, rfl⟩
  obtain ⟨g9, hg9⟩ : ∃ g9, g9 = W6.heap.size := ⟨_, rfl⟩
  rw [← hW7] at HZ7 HB7 HF7 HX7 HBZ7 ⊢
  rw [← hg9] at HZ7 ⊢
  clear hW7 hg9 s1
  refine (hrd W7).mono ?_
  rintro x W8 ⟨rfl, f8⟩
  have FA9 := Fr.alloc W8 (.cells #[.int .i64 z.kind, .int .i64 z.txn, .int .i64 z.page, .int .i64 z.slot, .int .i64 z.stamp, .string (strOf z.data)] 32) (fun _ => False)
  have FB9 := (f8.trans FA9).mono (Y := fun _ => False) (by simp)
  have HB9 := hide (HB7.out.fr FB9 (fun h => h))
  have HF9 := hide ((HF7.out.trans FB9).mono (Y := fun _ => False) (by simp))
  have HX9 := hide (HX7.out.fr FB9 (fun _ _ _ _ h => h))
  have HZ9 := hide (HZ7.out.fr FB9 (fun h => h))
  have HBZ := hide (HBZ7.out.fr FB9 (fun _ _ _ _ h => h))
  have HD9 := hide (dbox_db W8 z)
  unfold dbox at HD9
  clear FA9 FB9 f8 hrd HB7 HF7 HX7 HZ7 HBZ7
  go_wp2_with fail
  obtain ⟨W9, hW9⟩ : ∃ W9, W9 = W8.alloc (.cells #[.int .i64 z.kind, .int .i64 z.txn, .int .i64 z.page, .int .i64 z.slot, .int .i64 z.stamp, .string (strOf z.data)] 32) := ⟨_, rfl⟩
  obtain ⟨g11, hg11⟩ : ∃ g11, g11 = W8.heap.size := ⟨_, rfl⟩
  rw [← hW9] at HB9 HF9 HX9 HZ9 HBZ HD9 ⊢
  rw [← hg11] at HD9 ⊢
  clear hW9 hg11
  have hpz := plain_any z a6 c6
  unfold entV at hpz
  have hSx : ∀ V, Fr W9 V (fun _ => False) → BI V a2 (encB e).length (encB e) ∧ EB V g2 e (.slice a e.data.length c) ∧ EB V g9 z (.slice a6 z.data.length c6) ∧ EB V g11 z (.string (strOf z.data)) := fun V hV => ⟨HX9.out.fr hV (fun _ _ _ _ h => h), HB9.out.fr hV (fun h => h), HZ9.out.fr hV (fun h => h), HD9.out.fr hV (fun h => h)⟩
  have FD := Fr.drew W9 (fun _ => False)
  have hS := hSx _ FD
  refine wp_region_K (fun _ => true) (fun V => BI V a2 (encB e).length (encB e) ∧ EB V g2 e (.slice a e.data.length c) ∧ EB V g9 z (.slice a6 z.data.length c6) ∧ EB V g11 z (.string (strOf z.data))) (by kernel_rfl) ?_
  refine wpAnyK_takeTo 0 (some 37) (.slice a2 (encB e).length c2) [] rfl rfl (by kernel_rfl) (by kernel_rfl) (by kernel_rfl) (by kernel_rfl) (fun _ _ _ h => h) hS (Or.inl ⟨rfl, fun w1 hw1 => by go_simp⟩) ?_
  simp only [Act.put, List.setIfInBounds_toArray, List.set_cons_zero, List.set_cons_succ]
  refine wpAnyK_takeTo 1 (some 38) (.string (strOf (encB e))) [] rfl rfl (by kernel_rfl) (by kernel_rfl) (by kernel_rfl) (by kernel_rfl) (fun _ _ _ h => h) hS (Or.inl ⟨rfl, fun w1 hw1 => exec_string (.tmp 37) rfl rfl hw1.1⟩) ?_
  simp only [Act.put, List.setIfInBounds_toArray, List.set_cons_zero, List.set_cons_succ]
  refine wpAnyK_takeTo 2 (some 39) (.string (strOf (encB e))) [] rfl rfl (by kernel_rfl) (by kernel_rfl) (by kernel_rfl) (by kernel_rfl) (fun _ _ _ h => h) hS (Or.inl ⟨rfl, fun w1 hw1 => by go_simp⟩) ?_
  simp only [Act.put, List.setIfInBounds_toArray, List.set_cons_zero, List.set_cons_succ]
  refine wpAnyK_takeTo 3 (some 40) (.bool true) [] rfl rfl (by kernel_rfl) (by kernel_rfl) (by kernel_rfl) (by kernel_rfl) (fun _ _ _ h => h) hS (Or.inl ⟨rfl, fun w1 hw1 => by go_simp⟩) ?_
  simp only [Act.put, List.setIfInBounds_toArray, List.set_cons_zero, List.set_cons_succ]
  refine wpAnyK_takeTo 4 (some 41) (.bool true) [] rfl rfl (by kernel_rfl) (by kernel_rfl) (by kernel_rfl) (by kernel_rfl) (fun _ _ _ h => h) hS (Or.inl ⟨rfl, fun w1 hw1 => by go_simp⟩) ?_
  simp only [Act.put, List.setIfInBounds_toArray, List.set_cons_zero, List.set_cons_succ]
  refine wpAnyK_takeTo 5 (some 42) (.int .i64 (chk e)) [] rfl rfl (by kernel_rfl) (by kernel_rfl) (by kernel_rfl) (by kernel_rfl) (fun _ _ _ h => h) hS (Or.inl ⟨rfl, fun w1 hw1 => by go_simp⟩) ?_
  simp only [Act.put, List.setIfInBounds_toArray, List.set_cons_zero, List.set_cons_succ]
  refine wpAnyK_takeTo 6 (some 43) (.int .i64 (chk e)) [] rfl rfl (by kernel_rfl) (by kernel_rfl) (by kernel_rfl) (by kernel_rfl) (fun _ _ _ h => h) hS (Or.inl ⟨rfl, fun w1 hw1 => by go_simp⟩) ?_
  simp only [Act.put, List.setIfInBounds_toArray, List.set_cons_zero, List.set_cons_succ]
  refine wpAnyK_takeTo 7 (some 44) (.bool true) [] rfl rfl (by kernel_rfl) (by kernel_rfl) (by kernel_rfl) (by kernel_rfl) (fun _ _ _ h => h) hS (Or.inl ⟨rfl, fun w1 hw1 => by go_simp⟩) ?_
  simp only [Act.put, List.setIfInBounds_toArray, List.set_cons_zero, List.set_cons_succ]
  refine wpAnyK_takeTo 8 (some 45) (.bool true) [] rfl rfl (by kernel_rfl) (by kernel_rfl) (by kernel_rfl) (by kernel_rfl) (fun _ _ _ h => h) hS (Or.inl ⟨rfl, fun w1 hw1 => by go_simp⟩) ?_
  simp only [Act.put, List.setIfInBounds_toArray, List.set_cons_zero, List.set_cons_succ]
  refine wpAnyK_takeTo 9 (some 46) (.bool true) [] rfl rfl (by kernel_rfl) (by kernel_rfl) (by kernel_rfl) (by kernel_rfl) (fun _ _ _ h => h) hS (Or.inl ⟨rfl, fun w1 hw1 => by go_simp⟩) ?_
  simp only [Act.put, List.setIfInBounds_toArray, List.set_cons_zero, List.set_cons_succ]
  refine wpAnyK_takeTo 10 (some 47) (.agg #[.int .i64 e.kind, .int .i64 e.txn, .int .i64 e.page, .int .i64 e.slot, .int .i64 e.stamp, .slice a e.data.length c]) [] rfl rfl (by kernel_rfl) (by kernel_rfl) (by kernel_rfl) (by kernel_rfl) (fun _ _ _ h => h) hS (Or.inl ⟨rfl, fun w1 hw1 => by obtain ⟨hx, ⟨x0, x1, x2, x3, x4, x5, _⟩, ⟨y0, y1, y2, y3, y4, y5, _⟩, u0, u1, u2, u3, u4, u5, _⟩ := hw1; go_simp⟩) ?_
  simp only [Act.put, List.setIfInBounds_toArray, List.set_cons_zero, List.set_cons_succ]
  refine wpAnyK_takeTo 12 (some 49) (.int .i64 (chk e)) [] rfl rfl (by kernel_rfl) (by kernel_rfl) (by kernel_rfl) (by kernel_rfl) (fun _ _ _ h => h) hS (Or.inl ⟨rfl, fun w1 hw1 => by go_simp⟩) ?_
  simp only [Act.put, List.setIfInBounds_toArray, List.set_cons_zero, List.set_cons_succ]
  refine wpAnyK_one (i := 11) (by kernel_rfl) rfl rfl ?_
  refine wp_call_to (some 48) rfl 11 #[.agg #[.int .i64 e.kind, .int .i64 e.txn, .int .i64 e.page, .int .i64 e.slot, .int .i64 e.stamp, .slice a e.data.length c]] (by go_simp) (hck W9.drew) ?_
  rintro x V1 ⟨rfl, q1⟩
  have G1 : Fr W9 V1 (fun _ => False) := (FD.trans q1).mono (by simp)
  have hS := hSx V1 G1
  refine ⟨_, rfl, fun _ => hS, ?_⟩
  simp only [Act.put, List.setIfInBounds_toArray, List.set_cons_zero, List.set_cons_succ]
  refine wpAnyK_takeTo 13 (some 50) (.bool true) [] rfl rfl (by kernel_rfl) (by kernel_rfl) (by kernel_rfl) (by kernel_rfl) (fun _ _ _ h => h) hS (Or.inl ⟨rfl, fun w1 hw1 => by go_simp⟩) ?_
  simp only [Act.put, List.setIfInBounds_toArray, List.set_cons_zero, List.set_cons_succ]
  refine wpAnyK_takeTo 14 (some 51) (.bool true) [] rfl rfl (by kernel_rfl) (by kernel_rfl) (by kernel_rfl) (by kernel_rfl) (fun _ _ _ h => h) hS (Or.inl ⟨rfl, fun w1 hw1 => by go_simp⟩) ?_
  simp only [Act.put, List.setIfInBounds_toArray, List.set_cons_zero, List.set_cons_succ]
  refine wpAnyK_takeTo 15 (some 52) (.bool true) [] rfl rfl (by kernel_rfl) (by kernel_rfl) (by kernel_rfl) (by kernel_rfl) (fun _ _ _ h => h) hS (Or.inl ⟨rfl, fun w1 hw1 => by go_simp⟩) ?_
  simp only [Act.put, List.setIfInBounds_toArray, List.set_cons_zero, List.set_cons_succ]
  refine wpAnyK_takeTo 16 (some 53) (.agg #[.int .i64 z.kind, .int .i64 z.txn, .int .i64 z.page, .int .i64 z.slot, .int .i64 z.stamp, .slice a6 z.data.length c6]) [] rfl rfl (by kernel_rfl) (by kernel_rfl) (by kernel_rfl) (by kernel_rfl) (fun _ _ _ h => h) hS (Or.inl ⟨rfl, fun w1 hw1 => by obtain ⟨hx, ⟨x0, x1, x2, x3, x4, x5, _⟩, ⟨y0, y1, y2, y3, y4, y5, _⟩, u0, u1, u2, u3, u4, u5, _⟩ := hw1; go_simp⟩) ?_
  simp only [Act.put, List.setIfInBounds_toArray, List.set_cons_zero, List.set_cons_succ]
  refine wpAnyK_takeTo 18 (some 55) (.agg #[.int .i64 z.kind, .int .i64 z.txn, .int .i64 z.page, .int .i64 z.slot, .int .i64 z.stamp, .string (strOf z.data)]) [] rfl rfl (by kernel_rfl) (by kernel_rfl) (by kernel_rfl) (by kernel_rfl) (fun _ _ _ h => h) hS (Or.inl ⟨rfl, fun w1 hw1 => by obtain ⟨hx, ⟨x0, x1, x2, x3, x4, x5, _⟩, ⟨y0, y1, y2, y3, y4, y5, _⟩, u0, u1, u2, u3, u4, u5, _⟩ := hw1; go_simp⟩) ?_
  simp only [Act.put, List.setIfInBounds_toArray, List.set_cons_zero, List.set_cons_succ]
  refine wpAnyK_one (i := 17) (by kernel_rfl) rfl rfl ?_
  refine wp_call_to (some 54) rfl 8 #[.agg #[.int .i64 z.kind, .int .i64 z.txn, .int .i64 z.page, .int .i64 z.slot, .int .i64 z.stamp, .slice a6 z.data.length c6]] (by go_simp) (hpz V1 (HBZ.out.fr G1 (fun _ _ _ _ h => h))) ?_
  rintro x V2 ⟨rfl, q2⟩
  have G2 : Fr W9 V2 (fun _ => False) := (G1.trans q2).mono (by simp)
  have hS := hSx V2 G2
  refine ⟨_, rfl, fun _ => hS, ?_⟩
  simp only [Act.put, List.setIfInBounds_toArray, List.set_cons_zero, List.set_cons_succ]
  refine wpAnyK_takeTo 19 (some 56) (.bool true) [] rfl rfl (by kernel_rfl) (by kernel_rfl) (by kernel_rfl) (by kernel_rfl) (fun _ _ _ h => h) hS (Or.inl ⟨rfl, fun w1 hw1 => by unfold docV; go_simp⟩) ?_
  simp only [Act.put, List.setIfInBounds_toArray, List.set_cons_zero, List.set_cons_succ]
  refine wpAnyK_takeTo 20 (some 57) (.bool true) [] rfl rfl (by kernel_rfl) (by kernel_rfl) (by kernel_rfl) (by kernel_rfl) (fun _ _ _ h => h) hS (Or.inl ⟨rfl, fun w1 hw1 => by go_simp⟩) ?_
  simp only [Act.put, List.setIfInBounds_toArray, List.set_cons_zero, List.set_cons_succ]
  refine wpAnyK_takeTo 21 (some 58) (.bool true) [] rfl rfl (by kernel_rfl) (by kernel_rfl) (by kernel_rfl) (by kernel_rfl) (fun _ _ _ h => h) hS (Or.inl ⟨rfl, fun w1 hw1 => by go_simp⟩) ?_
  simp only [Act.put, List.setIfInBounds_toArray, List.set_cons_zero, List.set_cons_succ]
  refine wpAnyK_takeTo 22 (some 59) (.int .i64 (decC l)) [] rfl rfl (by kernel_rfl) (by kernel_rfl) (by kernel_rfl) (by kernel_rfl) (fun _ _ _ h => h) hS (Or.inl ⟨rfl, fun w1 hw1 => by go_simp⟩) ?_
  simp only [Act.put, List.setIfInBounds_toArray, List.set_cons_zero, List.set_cons_succ]
  refine wpAnyK_takeTo 23 (some 60) (.int .i64 (decC l)) [] rfl rfl (by kernel_rfl) (by kernel_rfl) (by kernel_rfl) (by kernel_rfl) (fun _ _ _ h => h) hS (Or.inl ⟨rfl, fun w1 hw1 => by go_simp⟩) ?_
  simp only [Act.put, List.setIfInBounds_toArray, List.set_cons_zero, List.set_cons_succ]
  refine wpAnyK_takeTo 24 (some 61) (.bool true) [] rfl rfl (by kernel_rfl) (by kernel_rfl) (by kernel_rfl) (by kernel_rfl) (fun _ _ _ h => h) hS (Or.inl ⟨rfl, fun w1 hw1 => by go_simp⟩) ?_
  simp only [Act.put, List.setIfInBounds_toArray, List.set_cons_zero, List.set_cons_succ]
  refine wpAnyK_takeTo 25 (some 62) (.bool true) [] rfl rfl (by kernel_rfl) (by kernel_rfl) (by kernel_rfl) (by kernel_rfl) (fun _ _ _ h => h) hS (Or.inl ⟨rfl, fun w1 hw1 => by go_simp⟩) ?_
  simp only [Act.put, List.setIfInBounds_toArray, List.set_cons_zero, List.set_cons_succ]
  refine wpAnyK_takeTo 26 (some 4) (.bool true) [] rfl rfl (by kernel_rfl) (by kernel_rfl) (by kernel_rfl) (by kernel_rfl) (fun _ _ _ h => h) hS (Or.inl ⟨rfl, fun w1 hw1 => by go_simp⟩) ?_
  simp only [Act.put, List.setIfInBounds_toArray, List.set_cons_zero, List.set_cons_succ]
  refine wpAnyK_done (by kernel_rfl) ?_ _
  have HFE := hide ((HF9.out.trans G2).mono (Y := fun _ => False) (by simp))
  clear hS hSx FD G1 G2 q1 q2
  go_wp2
  go_ret
  exact ⟨rfl, HFE.out⟩
end Go.Proofs.Ytngllfmlfemimaa
