/- The walk of TrailBack. -/
import Derived.Test.YtngllfmlfemimaaP
import Derived.Test.YtngllfmlfemimaaK
namespace Go.Proofs.Ytngllfmlfemimaa
open Go.RowKit
set_option linter.unusedVariables false

set_option maxRecDepth 100000 in
set_option maxHeartbeats 8000000 in
theorem back_walk (e : Ent) (a : Option Addr) (c : Nat) (ab : Option Addr) (n cb : Nat) (l : List UInt8) (w : World) (he : BI w a e.data.length e.data) (hac : a = none → c = 0) (hr : e.txn ≤ 9223372036854775807) (hb : BI w ab n l) (hnc : n ≤ cb) :
    Calls Try.prog 4 #[entV e a c, .slice ab n cb] w fun x w' => x = .returned (.bool true) ∧ Fr w w' (fun _ => False) := by
  have HB := hide (ebox_eb w e (.slice a e.data.length c))
  have FA := Fr.alloc w (.cells #[.int .i64 e.kind, .int .i64 e.txn, .int .i64 e.page, .int .i64 e.slot, .int .i64 e.stamp, .slice a e.data.length c] 24) (fun _ => False)
  have HF := hide FA
  have HBE := hide he
  have HBB := hide hb
  have HAC := hide hac
  unfold entV
  clear FA he hb hac
  go_enter Try.func4, Try.ntmps4
  go_wp2_with fail
  refine (awake_any _).mono ?_
  rintro x W1 ⟨rfl, f1⟩
  have HB1 := hide (HB.out.fr f1 (fun h => h))
  have HF1 := hide ((HF.out.trans f1).mono (Y := fun _ => False) (by simp))
  obtain ⟨g2, hg2⟩ : ∃ g2, g2 = w.heap.size := ⟨_, rfl⟩
  rw [← hg2] at HB1 ⊢
  clear f1 HB HF hg2
  have hen := encode_any e a c W1 (HBE.out.fr HF1.out (fun _ _ _ _ h => h)) HAC.out hr
  unfold entV at hen
  have x0 := HB1.out.c0
  have x1 := HB1.out.c1
  have x2 := HB1.out.c2
  have x3 := HB1.out.c3
  have x4 := HB1.out.c4
  have x5 := HB1.out.c5
  go_wp2_with fail
  refine hen.mono ?_
  rintro x W2 ⟨v2, rfl, o2, f2, _⟩
  have HB2 := hide (HB1.out.fr f2 (fun h => h))
  have HF2 := hide ((HF1.out.trans f2).mono (Y := fun _ => False) (by simp))
  have HO2 := hide o2
  obtain ⟨a2, c2, hv2⟩ := o2.shape
  subst hv2
  clear f2 o2 hen HB1 HF1 x0 x1 x2 x3 x4 x5
  go_wp2_with fail
  refine (decode_any a2 _ c2 (encB e) W2 HO2.out.bi HO2.out.cap.1).mono ?_
  rintro x W3 ⟨a3, c3, rfl, hb3, hac3, f3⟩
  have HB3 := hide (HB2.out.fr f3 (fun h => h))
  have HF3 := hide ((HF2.out.trans f3).mono (Y := fun _ => False) (by simp))
  clear f3 HB2 HF2 HO2
  by_cases hk : chk e = 0
  · have hE : encB e = encE e := by simp [encB, hk]
    rw [hE] at hb3 ⊢
    have HLEN := hide (show (encE e).length = (encE e).length from rfl)
    rw [decE_enc e hk hr] at hb3 ⊢
    rw [(dec_enc e hk hr).2, hk]
    have HE4 := hide (ebox_eb W3 e (.slice a3 e.data.length c3))
    have FA4 := Fr.alloc W3 (.cells #[.int .i64 e.kind, .int .i64 e.txn, .int .i64 e.page, .int .i64 e.slot, .int .i64 e.stamp, .slice a3 e.data.length c3] 24) (fun _ => False)
    have HB4 := hide (HB3.out.fr FA4 (fun h => h))
    have HF4 := hide ((HF3.out.trans FA4).mono (Y := fun _ => False) (by simp))
    have HBY := hide (hb3.fr FA4 (fun _ _ _ _ h => h))
    have hp1 := plain_any e a3 c3
    have hp2 := plain_any e a c
    unfold entV at hp1 hp2 ⊢
    generalize (encE e).length = ln at *
    clear hb3 hac3 FA4 HB3 HF3 hE hk
    go_wp2_with fail
    obtain ⟨W4, hW4⟩ : ∃ W4, W4 = W3.alloc (.cells #[.int .i64 e.kind, .int .i64 e.txn, .int .i64 e.page, .int .i64 e.slot, .int .i64 e.stamp, .slice a3 e.data.length c3] 24) := ⟨_, rfl⟩
    obtain ⟨g7, hg7⟩ : ∃ g7, g7 = W3.heap.size := ⟨_, rfl⟩
    unfold ebox at HE4
    rw [← hW4] at HE4 HB4 HF4 HBY ⊢
    rw [← hg7] at HE4 ⊢
    clear hW4 hg7
    replace HBE := hide (HBE.out.fr HF4.out (fun _ _ _ _ h => h))
    have hSx : ∀ V, Fr W4 V (fun _ => False) → EB V g7 e (.slice a3 e.data.length c3) ∧ EB V g2 e (.slice a e.data.length c) := fun V hV => ⟨HE4.out.fr hV (fun h => h), HB4.out.fr hV (fun h => h)⟩
    have FD := Fr.drew W4 (fun _ => False)
    have hS := hSx _ FD
    refine wp_region_K (fun _ => true) (fun V => EB V g7 e (.slice a3 e.data.length c3) ∧ EB V g2 e (.slice a e.data.length c)) (by kernel_rfl) ?_
    refine wpAnyK_takeTo 0 (some 25) (.int .i64 0) [] rfl rfl (by kernel_rfl) (by kernel_rfl) (by kernel_rfl) (by kernel_rfl) (fun _ _ _ h => h) hS (Or.inl ⟨rfl, fun w1 hw1 => by go_simp⟩) ?_
    simp only [Act.put, List.setIfInBounds_toArray, List.set_cons_zero, List.set_cons_succ]
    refine wpAnyK_takeTo 1 (some 26) (.bool true) [] rfl rfl (by kernel_rfl) (by kernel_rfl) (by kernel_rfl) (by kernel_rfl) (fun _ _ _ h => h) hS (Or.inl ⟨rfl, fun w1 hw1 => by go_simp⟩) ?_
    simp only [Act.put, List.setIfInBounds_toArray, List.set_cons_zero, List.set_cons_succ]
    refine wpAnyK_takeTo 2 (some 27) (.bool true) [] rfl rfl (by kernel_rfl) (by kernel_rfl) (by kernel_rfl) (by kernel_rfl) (fun _ _ _ h => h) hS (Or.inl ⟨rfl, fun w1 hw1 => by go_simp⟩) ?_
    simp only [Act.put, List.setIfInBounds_toArray, List.set_cons_zero, List.set_cons_succ]
    refine wpAnyK_takeTo 3 (some 28) (.int .i64 0) [] rfl rfl (by kernel_rfl) (by kernel_rfl) (by kernel_rfl) (by kernel_rfl) (fun _ _ _ h => h) hS (Or.inl ⟨rfl, fun w1 hw1 => by go_simp⟩) ?_
    simp only [Act.put, List.setIfInBounds_toArray, List.set_cons_zero, List.set_cons_succ]
    refine wpAnyK_takeTo 4 (some 29) (.bool false) [] rfl rfl (by kernel_rfl) (by kernel_rfl) (by kernel_rfl) (by kernel_rfl) (fun _ _ _ h => h) hS (Or.inl ⟨rfl, fun w1 hw1 => by go_simp⟩) ?_
    simp only [Act.put, List.setIfInBounds_toArray, List.set_cons_zero, List.set_cons_succ]
    refine wpAnyK_takeTo 5 (some 30) (.bool false) [] rfl rfl (by kernel_rfl) (by kernel_rfl) (by kernel_rfl) (by kernel_rfl) (fun _ _ _ h => h) hS (Or.inl ⟨rfl, fun w1 hw1 => by go_simp⟩) ?_
    simp only [Act.put, List.setIfInBounds_toArray, List.set_cons_zero, List.set_cons_succ]
    refine wpAnyK_takeTo 6 (some 31) (.agg #[.int .i64 e.kind, .int .i64 e.txn, .int .i64 e.page, .int .i64 e.slot, .int .i64 e.stamp, .slice a3 e.data.length c3]) [] rfl rfl (by kernel_rfl) (by kernel_rfl) (by kernel_rfl) (by kernel_rfl) (fun _ _ _ h => h) hS (Or.inl ⟨rfl, fun w1 hw1 => by obtain ⟨⟨x0, x1, x2, x3, x4, x5, _⟩, y0, y1, y2, y3, y4, y5, _⟩ := hw1; go_simp⟩) ?_
    simp only [Act.put, List.setIfInBounds_toArray, List.set_cons_zero, List.set_cons_succ]
    refine wpAnyK_takeTo 8 (some 33) (.agg #[.int .i64 e.kind, .int .i64 e.txn, .int .i64 e.page, .int .i64 e.slot, .int .i64 e.stamp, .slice a e.data.length c]) [] rfl rfl (by kernel_rfl) (by kernel_rfl) (by kernel_rfl) (by kernel_rfl) (fun _ _ _ h => h) hS (Or.inl ⟨rfl, fun w1 hw1 => by obtain ⟨⟨x0, x1, x2, x3, x4, x5, _⟩, y0, y1, y2, y3, y4, y5, _⟩ := hw1; go_simp⟩) ?_
    simp only [Act.put, List.setIfInBounds_toArray, List.set_cons_zero, List.set_cons_succ]
    refine wpAnyK_one (i := 7) (by kernel_rfl) rfl rfl ?_
    refine wp_call_to (some 32) rfl 8 #[.agg #[.int .i64 e.kind, .int .i64 e.txn, .int .i64 e.page, .int .i64 e.slot, .int .i64 e.stamp, .slice a3 e.data.length c3]] (by go_simp) (hp1 W4.drew (HBY.out.fr FD (fun _ _ _ _ h => h))) ?_
    rintro x V1 ⟨rfl, g1⟩
    have G1 : Fr W4 V1 (fun _ => False) := (FD.trans g1).mono (by simp)
    have hS := hSx V1 G1
    refine ⟨_, rfl, fun _ => hS, ?_⟩
    simp only [Act.put, List.setIfInBounds_toArray, List.set_cons_zero, List.set_cons_succ]
    refine wpAnyK_one (i := 9) (by kernel_rfl) rfl rfl ?_
    refine wp_call_to (some 34) rfl 8 #[.agg #[.int .i64 e.kind, .int .i64 e.txn, .int .i64 e.page, .int .i64 e.slot, .int .i64 e.stamp, .slice a e.data.length c]] (by go_simp) (hp2 V1 (HBE.out.fr G1 (fun _ _ _ _ h => h))) ?_
    rintro x V2 ⟨rfl, g2⟩
    have G2 : Fr W4 V2 (fun _ => False) := (G1.trans g2).mono (by simp)
    have hS := hSx V2 G2
    refine ⟨_, rfl, fun _ => hS, ?_⟩
    simp only [Act.put, List.setIfInBounds_toArray, List.set_cons_zero, List.set_cons_succ]
    refine wpAnyK_takeTo 10 (some 35) (.bool false) [] rfl rfl (by kernel_rfl) (by kernel_rfl) (by kernel_rfl) (by kernel_rfl) (fun _ _ _ h => h) hS (Or.inl ⟨rfl, fun w1 hw1 => by unfold docV; go_simp⟩) ?_
    simp only [Act.put, List.setIfInBounds_toArray, List.set_cons_zero, List.set_cons_succ]
    refine wpAnyK_takeTo 11 (some 36) (.bool false) [] rfl rfl (by kernel_rfl) (by kernel_rfl) (by kernel_rfl) (by kernel_rfl) (fun _ _ _ h => h) hS (Or.inl ⟨rfl, fun w1 hw1 => by go_simp⟩) ?_
    simp only [Act.put, List.setIfInBounds_toArray, List.set_cons_zero, List.set_cons_succ]
    refine wpAnyK_takeTo 12 (some 37) (.bool false) [] rfl rfl (by kernel_rfl) (by kernel_rfl) (by kernel_rfl) (by kernel_rfl) (fun _ _ _ h => h) hS (Or.inl ⟨rfl, fun w1 hw1 => by go_simp⟩) ?_
    simp only [Act.put, List.setIfInBounds_toArray, List.set_cons_zero, List.set_cons_succ]
    refine wpAnyK_takeTo 13 (some 38) (.bool false) [] rfl rfl (by kernel_rfl) (by kernel_rfl) (by kernel_rfl) (by kernel_rfl) (fun _ _ _ h => h) hS (Or.inl ⟨rfl, fun w1 hw1 => by go_simp⟩) ?_
    simp only [Act.put, List.setIfInBounds_toArray, List.set_cons_zero, List.set_cons_succ]
    refine wpAnyK_takeTo 14 (some 39) (.int .i64 0) [] rfl rfl (by kernel_rfl) (by kernel_rfl) (by kernel_rfl) (by kernel_rfl) (fun _ _ _ h => h) hS (Or.inl ⟨rfl, fun w1 hw1 => by go_simp⟩) ?_
    simp only [Act.put, List.setIfInBounds_toArray, List.set_cons_zero, List.set_cons_succ]
    refine wpAnyK_takeTo 15 (some 40) (.bool false) [] rfl rfl (by kernel_rfl) (by kernel_rfl) (by kernel_rfl) (by kernel_rfl) (fun _ _ _ h => h) hS (Or.inl ⟨rfl, fun w1 hw1 => by go_simp⟩) ?_
    simp only [Act.put, List.setIfInBounds_toArray, List.set_cons_zero, List.set_cons_succ]
    refine wpAnyK_takeTo 16 (some 41) (.bool false) [] rfl rfl (by kernel_rfl) (by kernel_rfl) (by kernel_rfl) (by kernel_rfl) (fun _ _ _ h => h) hS (Or.inl ⟨rfl, fun w1 hw1 => by go_simp⟩) ?_
    simp only [Act.put, List.setIfInBounds_toArray, List.set_cons_zero, List.set_cons_succ]
    refine wpAnyK_takeTo 17 (some 42) (undef) [] rfl rfl (by kernel_rfl) (by kernel_rfl) (by kernel_rfl) (by kernel_rfl) (fun _ _ _ h => h) hS (Or.inr ⟨rfl, rfl⟩) ?_
    simp only [Act.put, List.setIfInBounds_toArray, List.set_cons_zero, List.set_cons_succ]
    refine wpAnyK_takeTo 18 (some 43) (undef) [] rfl rfl (by kernel_rfl) (by kernel_rfl) (by kernel_rfl) (by kernel_rfl) (fun _ _ _ h => h) hS (Or.inr ⟨rfl, rfl⟩) ?_
    simp only [Act.put, List.setIfInBounds_toArray, List.set_cons_zero, List.set_cons_succ]
    refine wpAnyK_takeTo 19 (some 44) (undef) [] rfl rfl (by kernel_rfl) (by kernel_rfl) (by kernel_rfl) (by kernel_rfl) (fun _ _ _ h => h) hS (Or.inr ⟨rfl, rfl⟩) ?_
    simp only [Act.put, List.setIfInBounds_toArray, List.set_cons_zero, List.set_cons_succ]
    refine wpAnyK_takeTo 20 (some 45) (.bool false) [] rfl rfl (by kernel_rfl) (by kernel_rfl) (by kernel_rfl) (by kernel_rfl) (fun _ _ _ h => h) hS (Or.inl ⟨rfl, fun w1 hw1 => by go_simp⟩) ?_
    simp only [Act.put, List.setIfInBounds_toArray, List.set_cons_zero, List.set_cons_succ]
    refine wpAnyK_takeTo 21 (some 46) (.bool false) [] rfl rfl (by kernel_rfl) (by kernel_rfl) (by kernel_rfl) (by kernel_rfl) (fun _ _ _ h => h) hS (Or.inl ⟨rfl, fun w1 hw1 => by go_simp⟩) ?_
    simp only [Act.put, List.setIfInBounds_toArray, List.set_cons_zero, List.set_cons_succ]
    refine wpAnyK_done (by kernel_rfl) ?_ _
    have HF5 := hide ((HF4.out.trans G2).mono (Y := fun _ => False) (by simp))
    obtain ⟨W5, hW5⟩ : ∃ W5, W5 = V2 := ⟨_, rfl⟩
    subst hW5
    clear hS hSx FD G1 G2 g1 g2 HE4 HB4 HF4 HBY hp1 hp2 HBE
    go_wp2_with fail
    refine (decode_any ab n cb l W5 (HBB.out.fr HF5.out (fun _ _ _ _ h => h)) hnc).mono ?_
    rintro x W6 ⟨a6, c6, rfl, hb6, hac6, f6⟩
    have HF6 := hide ((HF5.out.trans f6).mono (Y := fun _ => False) (by simp))
    have HB6 := hide hb6
    have HC6 := hide hac6
    clear f6 hb6 hac6
    by_cases hd : decC l = 0
    · obtain ⟨q1, q2, q3⟩ := enc_dec l hd
      have HEB := hide (show encB (decE l) = l by rw [encB, if_pos q1]; exact q2)
      have HQ1 := hide q1
      rw [hd]
      clear q1 q2 hd
      obtain ⟨z, hz⟩ : ∃ z, z = decE l := ⟨_, rfl⟩
      rw [← hz] at HEB HQ1 q3 HB6 ⊢
      clear hz
      have HE7 := hide (ebox_eb W6 z (.slice a6 z.data.length c6))
      have FA7 := Fr.alloc W6 (.cells #[.int .i64 z.kind, .int .i64 z.txn, .int .i64 z.page, .int .i64 z.slot, .int .i64 z.stamp, .slice a6 z.data.length c6] 24) (fun _ => False)
      have HB7 := hide (HB6.out.fr FA7 (fun _ _ _ _ h => h))
      have HF7 := hide ((HF6.out.trans FA7).mono (Y := fun _ => False) (by simp))
      have hen := encode_any z a6 c6 _ HB7.out HC6.out q3
      have x0 := HE7.out.c0
      have x1 := HE7.out.c1
      have x2 := HE7.out.c2
      have x3 := HE7.out.c3
      have x4 := HE7.out.c4
      have x5 := HE7.out.c5
      unfold entV at hen ⊢
      rw [HQ1.out, HEB.out] at hen
      clear FA7 HE7 HB6 HB7
      go_wp2_with fail
      refine hen.mono ?_
      rintro x W8 ⟨v8, rfl, o8, f8, _⟩
      obtain ⟨a8, c8, hv8⟩ := o8.shape
      subst hv8
      have HF8 := hide ((HF7.out.trans f8).mono (Y := fun _ => False) (by simp))
      have s1 := run_string W8 a8 l.length c8 l o8.bi.bin
      have s2 := run_string W8 ab n cb l (HBB.out.fr HF8.out (fun _ _ _ _ h => h)).bin
      clear f8 o8 hen x0 x1 x2 x3 x4 x5
      go_wp2
      go_ret
      exact ⟨rfl, HF8.out⟩
    · have HZ := hide (decE_no rfl hd)
      have hpz := plain_any zeroE a6 c6
      rw [HZ.out] at HB6 ⊢
      obtain ⟨ck2, hck2⟩ : ∃ ck2, ck2 = decC l := ⟨_, rfl⟩
      rw [← hck2] at hd ⊢
      clear hck2
      have HE7 := hide (ebox_eb W6 zeroE (.slice a6 0 c6))
      have FA7 := Fr.alloc W6 (.cells #[.int .i64 0, .int .i64 0, .int .i64 0, .int .i64 0, .int .i64 0, .slice a6 0 c6] 24) (fun _ => False)
      have HB7 := hide (HB6.out.fr FA7 (fun _ _ _ _ h => h))
      have HF7 := hide ((HF6.out.trans FA7).mono (Y := fun _ => False) (by simp))
      have x0 := HE7.out.c0
      have x1 := HE7.out.c1
      have x2 := HE7.out.c2
      have x3 := HE7.out.c3
      have x4 := HE7.out.c4
      have x5 := HE7.out.c5
      unfold entV docV at hpz
      unfold entV
      unfold zeroE at hpz x0 x1 x2 x3 x4 x5 HB7
      unfold zeroE
      simp only [List.length_nil] at hpz x0 x1 x2 x3 x4 x5 HB7 ⊢
      clear FA7 HE7 HB6
      go_wp2_with fail
      refine (hpz _ HB7.out).mono ?_
      rintro x W8 ⟨rfl, f8⟩
      have HF8 := hide ((HF7.out.trans f8).mono (Y := fun _ => False) (by simp))
      clear f8 hpz x0 x1 x2 x3 x4 x5
      simp only [strOf_nil]
      go_wp2
      go_ret
      exact ⟨rfl, HF8.out⟩
  · have hE : encB e = [] := by simp [encB, hk]
    rw [hE] at hb3 ⊢
    have HF4 := hide ((HF3.out.trans (Fr.alloc W3 (.cells #[.int .i64 0, .int .i64 0, .int .i64 0, .int .i64 0, .int .i64 0, .slice a3 0 c3] 24) (fun _ => False))).mono (Y := fun _ => False) (by simp))
    rw [show decE [] = zeroE from rfl, show decC [] = 20 from rfl]
    unfold entV zeroE
    simp only [List.length_nil]
    obtain ⟨ck, hck⟩ : ∃ ck, ck = chk e := ⟨_, rfl⟩
    rw [← hck] at hk ⊢
    clear hb3 hac3 HB3 HF3 hE hck
    go_wp2_with fail
    obtain ⟨W4, hW4⟩ : ∃ W4, W4 = W3.alloc (.cells #[.int .i64 0, .int .i64 0, .int .i64 0, .int .i64 0, .int .i64 0, .slice a3 0 c3] 24) := ⟨_, rfl⟩
    rw [← hW4] at HF4 ⊢
    clear hW4
    have hS : True := trivial
    refine wp_region_K (fun _ => true) (fun V => True) (by kernel_rfl) ?_
    refine wpAnyK_takeTo 0 (some 25) (.int .i64 ck) [] rfl rfl (by kernel_rfl) (by kernel_rfl) (by kernel_rfl) (by kernel_rfl) (fun _ _ _ h => h) hS (Or.inl ⟨rfl, fun w1 hw1 => by go_simp⟩) ?_
    simp only [Act.put, List.setIfInBounds_toArray, List.set_cons_zero, List.set_cons_succ]
    refine wpAnyK_takeTo 1 (some 26) (.bool false) [] rfl rfl (by kernel_rfl) (by kernel_rfl) (by kernel_rfl) (by kernel_rfl) (fun _ _ _ h => h) hS (Or.inl ⟨rfl, fun w1 hw1 => by go_simp; first | done | exact hk⟩) ?_
    simp only [Act.put, List.setIfInBounds_toArray, List.set_cons_zero, List.set_cons_succ]
    refine wpAnyK_takeTo 2 (some 27) (.bool false) [] rfl rfl (by kernel_rfl) (by kernel_rfl) (by kernel_rfl) (by kernel_rfl) (fun _ _ _ h => h) hS (Or.inl ⟨rfl, fun w1 hw1 => by go_simp⟩) ?_
    simp only [Act.put, List.setIfInBounds_toArray, List.set_cons_zero, List.set_cons_succ]
    refine wpAnyK_takeTo 3 (some 28) (undef) [] rfl rfl (by kernel_rfl) (by kernel_rfl) (by kernel_rfl) (by kernel_rfl) (fun _ _ _ h => h) hS (Or.inr ⟨rfl, rfl⟩) ?_
    simp only [Act.put, List.setIfInBounds_toArray, List.set_cons_zero, List.set_cons_succ]
    refine wpAnyK_takeTo 4 (some 29) (undef) [] rfl rfl (by kernel_rfl) (by kernel_rfl) (by kernel_rfl) (by kernel_rfl) (fun _ _ _ h => h) hS (Or.inr ⟨rfl, rfl⟩) ?_
    simp only [Act.put, List.setIfInBounds_toArray, List.set_cons_zero, List.set_cons_succ]
    refine wpAnyK_takeTo 5 (some 30) (undef) [] rfl rfl (by kernel_rfl) (by kernel_rfl) (by kernel_rfl) (by kernel_rfl) (fun _ _ _ h => h) hS (Or.inr ⟨rfl, rfl⟩) ?_
    simp only [Act.put, List.setIfInBounds_toArray, List.set_cons_zero, List.set_cons_succ]
    refine wpAnyK_takeTo 6 (some 31) (undef) [] rfl rfl (by kernel_rfl) (by kernel_rfl) (by kernel_rfl) (by kernel_rfl) (fun _ _ _ h => h) hS (Or.inr ⟨rfl, rfl⟩) ?_
    simp only [Act.put, List.setIfInBounds_toArray, List.set_cons_zero, List.set_cons_succ]
    refine wpAnyK_takeTo 7 (some 32) (undef) [] rfl rfl (by kernel_rfl) (by kernel_rfl) (by kernel_rfl) (by kernel_rfl) (fun _ _ _ h => h) hS (Or.inr ⟨rfl, rfl⟩) ?_
    simp only [Act.put, List.setIfInBounds_toArray, List.set_cons_zero, List.set_cons_succ]
    refine wpAnyK_takeTo 8 (some 33) (undef) [] rfl rfl (by kernel_rfl) (by kernel_rfl) (by kernel_rfl) (by kernel_rfl) (fun _ _ _ h => h) hS (Or.inr ⟨rfl, rfl⟩) ?_
    simp only [Act.put, List.setIfInBounds_toArray, List.set_cons_zero, List.set_cons_succ]
    refine wpAnyK_takeTo 9 (some 34) (undef) [] rfl rfl (by kernel_rfl) (by kernel_rfl) (by kernel_rfl) (by kernel_rfl) (fun _ _ _ h => h) hS (Or.inr ⟨rfl, rfl⟩) ?_
    simp only [Act.put, List.setIfInBounds_toArray, List.set_cons_zero, List.set_cons_succ]
    refine wpAnyK_takeTo 10 (some 35) (undef) [] rfl rfl (by kernel_rfl) (by kernel_rfl) (by kernel_rfl) (by kernel_rfl) (fun _ _ _ h => h) hS (Or.inr ⟨rfl, rfl⟩) ?_
    simp only [Act.put, List.setIfInBounds_toArray, List.set_cons_zero, List.set_cons_succ]
    refine wpAnyK_takeTo 11 (some 36) (undef) [] rfl rfl (by kernel_rfl) (by kernel_rfl) (by kernel_rfl) (by kernel_rfl) (fun _ _ _ h => h) hS (Or.inr ⟨rfl, rfl⟩) ?_
    simp only [Act.put, List.setIfInBounds_toArray, List.set_cons_zero, List.set_cons_succ]
    refine wpAnyK_takeTo 12 (some 37) (.bool false) [] rfl rfl (by kernel_rfl) (by kernel_rfl) (by kernel_rfl) (by kernel_rfl) (fun _ _ _ h => h) hS (Or.inl ⟨rfl, fun w1 hw1 => by go_simp⟩) ?_
    simp only [Act.put, List.setIfInBounds_toArray, List.set_cons_zero, List.set_cons_succ]
    refine wpAnyK_takeTo 13 (some 38) (.bool false) [] rfl rfl (by kernel_rfl) (by kernel_rfl) (by kernel_rfl) (by kernel_rfl) (fun _ _ _ h => h) hS (Or.inl ⟨rfl, fun w1 hw1 => by go_simp⟩) ?_
    simp only [Act.put, List.setIfInBounds_toArray, List.set_cons_zero, List.set_cons_succ]
    refine wpAnyK_takeTo 14 (some 39) (.int .i64 ck) [] rfl rfl (by kernel_rfl) (by kernel_rfl) (by kernel_rfl) (by kernel_rfl) (fun _ _ _ h => h) hS (Or.inl ⟨rfl, fun w1 hw1 => by go_simp⟩) ?_
    simp only [Act.put, List.setIfInBounds_toArray, List.set_cons_zero, List.set_cons_succ]
    refine wpAnyK_takeTo 15 (some 40) (.bool true) [] rfl rfl (by kernel_rfl) (by kernel_rfl) (by kernel_rfl) (by kernel_rfl) (fun _ _ _ h => h) hS (Or.inl ⟨rfl, fun w1 hw1 => by go_simp; first | done | exact hk⟩) ?_
    simp only [Act.put, List.setIfInBounds_toArray, List.set_cons_zero, List.set_cons_succ]
    refine wpAnyK_takeTo 16 (some 41) (.bool true) [] rfl rfl (by kernel_rfl) (by kernel_rfl) (by kernel_rfl) (by kernel_rfl) (fun _ _ _ h => h) hS (Or.inl ⟨rfl, fun w1 hw1 => by go_simp⟩) ?_
    simp only [Act.put, List.setIfInBounds_toArray, List.set_cons_zero, List.set_cons_succ]
    refine wpAnyK_takeTo 17 (some 42) (.slice a2 0 c2) [] rfl rfl (by kernel_rfl) (by kernel_rfl) (by kernel_rfl) (by kernel_rfl) (fun _ _ _ h => h) hS (Or.inl ⟨rfl, fun w1 hw1 => by go_simp⟩) ?_
    simp only [Act.put, List.setIfInBounds_toArray, List.set_cons_zero, List.set_cons_succ]
    refine wpAnyK_takeTo 18 (some 43) (.int .i64 0) [] rfl rfl (by kernel_rfl) (by kernel_rfl) (by kernel_rfl) (by kernel_rfl) (fun _ _ _ h => h) hS (Or.inl ⟨rfl, fun w1 hw1 => by go_simp⟩) ?_
    simp only [Act.put, List.setIfInBounds_toArray, List.set_cons_zero, List.set_cons_succ]
    refine wpAnyK_takeTo 19 (some 44) (.bool false) [] rfl rfl (by kernel_rfl) (by kernel_rfl) (by kernel_rfl) (by kernel_rfl) (fun _ _ _ h => h) hS (Or.inl ⟨rfl, fun w1 hw1 => by go_simp⟩) ?_
    simp only [Act.put, List.setIfInBounds_toArray, List.set_cons_zero, List.set_cons_succ]
    refine wpAnyK_takeTo 20 (some 45) (.bool false) [] rfl rfl (by kernel_rfl) (by kernel_rfl) (by kernel_rfl) (by kernel_rfl) (fun _ _ _ h => h) hS (Or.inl ⟨rfl, fun w1 hw1 => by go_simp⟩) ?_
    simp only [Act.put, List.setIfInBounds_toArray, List.set_cons_zero, List.set_cons_succ]
    refine wpAnyK_takeTo 21 (some 46) (.bool false) [] rfl rfl (by kernel_rfl) (by kernel_rfl) (by kernel_rfl) (by kernel_rfl) (fun _ _ _ h => h) hS (Or.inl ⟨rfl, fun w1 hw1 => by go_simp⟩) ?_
    simp only [Act.put, List.setIfInBounds_toArray, List.set_cons_zero, List.set_cons_succ]
    refine wpAnyK_done (by kernel_rfl) ?_ _
    have HF5 := hide ((HF4.out.trans (Fr.drew W4 (fun _ => False))).mono (Y := fun _ => False) (by simp))
    obtain ⟨W5, hW5⟩ : ∃ W5, W5 = W4.drew := ⟨_, rfl⟩
    rw [← hW5] at HF5 ⊢
    clear hW5 HF4
    go_wp2_with fail
    refine (decode_any ab n cb l W5 (HBB.out.fr HF5.out (fun _ _ _ _ h => h)) hnc).mono ?_
    rintro x W6 ⟨a6, c6, rfl, hb6, hac6, f6⟩
    have HF6 := hide ((HF5.out.trans f6).mono (Y := fun _ => False) (by simp))
    have HB6 := hide hb6
    have HC6 := hide hac6
    clear f6 hb6 hac6
    by_cases hd : decC l = 0
    · obtain ⟨q1, q2, q3⟩ := enc_dec l hd
      have HEB := hide (show encB (decE l) = l by rw [encB, if_pos q1]; exact q2)
      have HQ1 := hide q1
      rw [hd]
      clear q1 q2 hd
      obtain ⟨z, hz⟩ : ∃ z, z = decE l := ⟨_, rfl⟩
      rw [← hz] at HEB HQ1 q3 HB6 ⊢
      clear hz
      have HE7 := hide (ebox_eb W6 z (.slice a6 z.data.length c6))
      have FA7 := Fr.alloc W6 (.cells #[.int .i64 z.kind, .int .i64 z.txn, .int .i64 z.page, .int .i64 z.slot, .int .i64 z.stamp, .slice a6 z.data.length c6] 24) (fun _ => False)
      have HB7 := hide (HB6.out.fr FA7 (fun _ _ _ _ h => h))
      have HF7 := hide ((HF6.out.trans FA7).mono (Y := fun _ => False) (by simp))
      have hen := encode_any z a6 c6 _ HB7.out HC6.out q3
      have x0 := HE7.out.c0
      have x1 := HE7.out.c1
      have x2 := HE7.out.c2
      have x3 := HE7.out.c3
      have x4 := HE7.out.c4
      have x5 := HE7.out.c5
      unfold entV at hen ⊢
      rw [HQ1.out, HEB.out] at hen
      clear FA7 HE7 HB6 HB7
      go_wp2_with fail
      refine hen.mono ?_
      rintro x W8 ⟨v8, rfl, o8, f8, _⟩
      obtain ⟨a8, c8, hv8⟩ := o8.shape
      subst hv8
      have HF8 := hide ((HF7.out.trans f8).mono (Y := fun _ => False) (by simp))
      have s1 := run_string W8 a8 l.length c8 l o8.bi.bin
      have s2 := run_string W8 ab n cb l (HBB.out.fr HF8.out (fun _ _ _ _ h => h)).bin
      clear f8 o8 hen x0 x1 x2 x3 x4 x5
      go_wp2
      go_ret
      exact ⟨rfl, HF8.out⟩
    · have HZ := hide (decE_no rfl hd)
      have hpz := plain_any zeroE a6 c6
      rw [HZ.out] at HB6 ⊢
      obtain ⟨ck2, hck2⟩ : ∃ ck2, ck2 = decC l := ⟨_, rfl⟩
      rw [← hck2] at hd ⊢
      clear hck2
      have HE7 := hide (ebox_eb W6 zeroE (.slice a6 0 c6))
      have FA7 := Fr.alloc W6 (.cells #[.int .i64 0, .int .i64 0, .int .i64 0, .int .i64 0, .int .i64 0, .slice a6 0 c6] 24) (fun _ => False)
      have HB7 := hide (HB6.out.fr FA7 (fun _ _ _ _ h => h))
      have HF7 := hide ((HF6.out.trans FA7).mono (Y := fun _ => False) (by simp))
      have x0 := HE7.out.c0
      have x1 := HE7.out.c1
      have x2 := HE7.out.c2
      have x3 := HE7.out.c3
      have x4 := HE7.out.c4
      have x5 := HE7.out.c5
      unfold entV docV at hpz
      unfold entV
      unfold zeroE at hpz x0 x1 x2 x3 x4 x5 HB7
      unfold zeroE
      simp only [List.length_nil] at hpz x0 x1 x2 x3 x4 x5 HB7 ⊢
      clear FA7 HE7 HB6
      go_wp2_with fail
      refine (hpz _ HB7.out).mono ?_
      rintro x W8 ⟨rfl, f8⟩
      have HF8 := hide ((HF7.out.trans f8).mono (Y := fun _ => False) (by simp))
      clear f8 hpz x0 x1 x2 x3 x4 x5
      simp only [strOf_nil]
      go_wp2
      go_ret
      exact ⟨rfl, HF8.out⟩
end Go.Proofs.Ytngllfmlfemimaa
