/- Values stand in the order of their bytes: the walk of CodecOrders. -/
import Derived.Test.YtnbbgliegfmhpabCq
import Derived.Test.YtnbbgliegfmhpabCw0
namespace Go.Proofs.Ytnbbgliegfmhpab
open Go.RowKit

set_option maxRecDepth 100000 in
set_option maxHeartbeats 4000000 in
theorem orders_walk (a : Option Addr) (ca : Nat) (A : List Val) (b : Option Addr) (cb : Nat) (B : List Val) (c : Option Addr) (cc : Nat) (C : List Val) (hwA : Wf A) (hwB : Wf B) (w : World) (ha : Vals w a A) (hb : Vals w b B) (hc : Vals w c C)
    (hA : A.length ≤ 1048576) (hB : B.length ≤ 1048576) (hC : C.length ≤ 1048576) :
    Calls Try.prog 3 #[.slice a A.length ca, .slice b B.length cb, .slice c C.length cc] w fun e w' => e = .returned (.bool true) ∧ Fr w w' (fun _ => False) := by
  have HA := hide ha
  have HB := hide hb
  have HC := hide hc
  have HWA := hide hwA
  have HWB := hide hwB
  clear ha hb hc hwA hwB
  obtain ⟨n, hn⟩ : ∃ n, n = cmpL A B := ⟨_, rfl⟩
  obtain ⟨m, hm⟩ : ∃ m, m = cmpL B C := ⟨_, rfl⟩
  obtain ⟨k, hk⟩ : ∃ k, k = cmpL A C := ⟨_, rfl⟩
  have hBA : cmpL B A = -n := by rw [hn]; exact good_vals.neg A B
  have hn1 : -1 ≤ n ∧ n ≤ 1 := by have := good_vals.range A B; omega
  have hm1 : -1 ≤ m ∧ m ≤ 1 := by have := good_vals.range B C; omega
  have hk1 : -1 ≤ k ∧ k ≤ 1 := by have := good_vals.range A C; omega
  have htr : n ≤ 0 → m ≤ 0 → k ≤ 0 := by rw [hn, hm, hk]; exact good_vals.trans A B C
  have HN := hide hn
  have HM := hide hm
  have HK := hide hk
  have HBA := hide hBA
  have HTR := hide htr
  obtain ⟨hn1a, hn1b⟩ := hn1
  obtain ⟨hm1a, hm1b⟩ := hm1
  obtain ⟨hk1a, hk1b⟩ := hk1
  clear hn hm hk hBA htr
  go_enter Try.func3, Try.ntmps3
  go_wp2_with fail
  refine (awake_any w).mono ?_
  rintro e w1 ⟨rfl, F1⟩
  have HF1 := hide F1
  have HE1 := hide (encode_any a ca A w1 (HA.out.keep F1) hA)
  clear F1
  go_wp2_with fail
  refine HE1.out.mono ?_
  clear HE1
  rintro e w2 ⟨x2, rfl, ho2, F2, u2⟩
  obtain ⟨a2, c2, rfl⟩ := ho2.shape
  have HF2 := hide ((HF1.out.trans F2).mono (Y := fun _ => False) (by simp))
  have HO2 := hide ho2.bi
  have HE2 := hide (encode_any b cb B w2 (HB.out.keep HF2.out) hB)
  clear F2 ho2 u2 HF1
  go_wp2_with fail
  refine HE2.out.mono ?_
  clear HE2
  rintro e w3 ⟨x3, rfl, ho3, F3, u3⟩
  obtain ⟨a3, c3, rfl⟩ := ho3.shape
  have HF3 := hide ((HF2.out.trans F3).mono (Y := fun _ => False) (by simp))
  have HO2b := hide (HO2.out.fr F3 (fun _ _ _ _ h => h))
  have HO3 := hide ho3.bi
  have HE3 := hide (codecCompare_any a b ca cb A B w3 (HA.out.keep HF3.out) (HB.out.keep HF3.out) (by omega) (by omega))
  rw [← HN.out] at HE3
  clear F3 ho3 u3 HF2 HO2
  go_wp2_with fail
  refine HE3.out.mono ?_
  clear HE3
  rintro e w4 ⟨rfl, F4⟩
  have HF4 := hide ((HF3.out.trans F4).mono (Y := fun _ => False) (by simp))
  have HX4 := hide (HO2b.out.fr F4 (fun _ _ _ _ h => h))
  have HY4 := hide (HO3.out.fr F4 (fun _ _ _ _ h => h))
  have HE4 := hide (codecCompare_any b a cb ca B A w4 (HB.out.keep HF4.out) (HA.out.keep HF4.out) (by omega) (by omega))
  rw [HBA.out] at HE4
  clear F4 HF3 HO2b HO3
  go_wp2_with fail
  refine HE4.out.mono ?_
  clear HE4
  rintro e w5 ⟨rfl, F5⟩
  have HF5 := hide ((HF4.out.trans F5).mono (Y := fun _ => False) (by simp))
  have HX5 := hide (HX4.out.fr F5 (fun _ _ _ _ h => h))
  have HY5 := hide (HY4.out.fr F5 (fun _ _ _ _ h => h))
  have HE5 := hide (compare_any a b ca cb A B w5 (HA.out.keep HF5.out) (HB.out.keep HF5.out) (by omega) (by omega))
  rw [← HN.out] at HE5
  clear F5 HF4 HX4 HY4
  go_wp2_with fail
  refine HE5.out.mono ?_
  clear HE5
  rintro e w6 ⟨rfl, F6⟩
  have HF6 := hide ((HF5.out.trans F6).mono (Y := fun _ => False) (by simp))
  have HX6 := hide (HX5.out.fr F6 (fun _ _ _ _ h => h))
  have HY6 := hide (HY5.out.fr F6 (fun _ _ _ _ h => h))
  clear F6 HF5 HX5 HY5
  by_cases hn0 : n ≤ 0
  · have HE7 := hide (codecCompare_any b c cb cc B C w6 (HB.out.keep HF6.out) (HC.out.keep HF6.out) (by omega) (by omega))
    rw [← HM.out] at HE7
    go_wp2_with fail
    refine HE7.out.mono ?_
    clear HE7
    rintro e w7 ⟨rfl, F7⟩
    have HF7 := hide ((HF6.out.trans F7).mono (Y := fun _ => False) (by simp))
    have HX7 := hide (HX6.out.fr F7 (fun _ _ _ _ h => h))
    have HY7 := hide (HY6.out.fr F7 (fun _ _ _ _ h => h))
    clear F7 HF6 HX6 HY6
    by_cases hm0 : m ≤ 0
    · have hk0 : k ≤ 0 := HTR.out hn0 hm0
      have HE8 := hide (codecCompare_any a c ca cc A C w7 (HA.out.keep HF7.out) (HC.out.keep HF7.out) (by omega) (by omega))
      rw [← HK.out] at HE8
      go_wp2_with fail
      refine HE8.out.mono ?_
      clear HE8
      rintro e w8 ⟨rfl, F8⟩
      have HF8 := hide ((HF7.out.trans F8).mono (Y := fun _ => False) (by simp))
      have HX8 := hide (HX7.out.fr F8 (fun _ _ _ _ h => h))
      have HY8 := hide (HY7.out.fr F8 (fun _ _ _ _ h => h))
      clear F8 HF7 HX7 HY7
      by_cases hcA : checkL A = 0
      · by_cases hcB : checkL B = 0
        · obtain ⟨l1, l2⟩ := less_encL A B hcA hcB HWA.out HWB.out
          rw [← HN.out] at l1 l2
          have erA : encR A = encL A := by rw [encR, if_pos hcA]
          have erB : encR B = encL B := by rw [encR, if_pos hcB]
          have bx := HX8.out
          have by_ := HY8.out
          rw [erA] at bx
          rw [erB] at by_
          have hcv1 := run_string w8 a2 _ c2 _ bx.bin
          have hcv2 := run_string w8 a3 _ c3 _ by_.bin
          have ht1 := toList_strOf (encL A)
          have ht2 := toList_strOf (encL B)
          have hzA : ((checkL A : Nat) : Int) = 0 := by omega
          have hzB : ((checkL B : Nat) : Int) = 0 := by omega
          clear bx by_ hcA hcB
          go_wp2
          go_ret
          exact ⟨by simp; rfl, HF8.out⟩
        · have hzA : ((checkL A : Nat) : Int) = 0 := by omega
          have hzB : ¬ ((checkL B : Nat) : Int) = 0 := by omega
          go_wp2
          go_ret
          exact ⟨rfl, HF8.out⟩
      · have hzA : ¬ ((checkL A : Nat) : Int) = 0 := by omega
        go_wp2
        go_ret
        exact ⟨rfl, HF8.out⟩
    · have hm2 : 0 < m := by omega
      by_cases hcA : checkL A = 0
      · by_cases hcB : checkL B = 0
        · obtain ⟨l1, l2⟩ := less_encL A B hcA hcB HWA.out HWB.out
          rw [← HN.out] at l1 l2
          have erA : encR A = encL A := by rw [encR, if_pos hcA]
          have erB : encR B = encL B := by rw [encR, if_pos hcB]
          have bx := HX7.out
          have by_ := HY7.out
          rw [erA] at bx
          rw [erB] at by_
          have hcv1 := run_string w7 a2 _ c2 _ bx.bin
          have hcv2 := run_string w7 a3 _ c3 _ by_.bin
          have ht1 := toList_strOf (encL A)
          have ht2 := toList_strOf (encL B)
          have hzA : ((checkL A : Nat) : Int) = 0 := by omega
          have hzB : ((checkL B : Nat) : Int) = 0 := by omega
          clear bx by_ hcA hcB
          go_wp2
          go_ret
          exact ⟨by simp; rfl, HF7.out⟩
        · have hzA : ((checkL A : Nat) : Int) = 0 := by omega
          have hzB : ¬ ((checkL B : Nat) : Int) = 0 := by omega
          go_wp2
          go_ret
          exact ⟨rfl, HF7.out⟩
      · have hzA : ¬ ((checkL A : Nat) : Int) = 0 := by omega
        go_wp2
        go_ret
        exact ⟨rfl, HF7.out⟩
  · have hn2 : 0 < n := by omega
    by_cases hcA : checkL A = 0
    · by_cases hcB : checkL B = 0
      · obtain ⟨l1, l2⟩ := less_encL A B hcA hcB HWA.out HWB.out
        rw [← HN.out] at l1 l2
        have erA : encR A = encL A := by rw [encR, if_pos hcA]
        have erB : encR B = encL B := by rw [encR, if_pos hcB]
        have bx := HX6.out
        have by_ := HY6.out
        rw [erA] at bx
        rw [erB] at by_
        have hcv1 := run_string w6 a2 _ c2 _ bx.bin
        have hcv2 := run_string w6 a3 _ c3 _ by_.bin
        have ht1 := toList_strOf (encL A)
        have ht2 := toList_strOf (encL B)
        have hzA : ((checkL A : Nat) : Int) = 0 := by omega
        have hzB : ((checkL B : Nat) : Int) = 0 := by omega
        clear bx by_ hcA hcB
        go_wp2
        go_ret
        exact ⟨by simp; rfl, HF6.out⟩
      · have hzA : ((checkL A : Nat) : Int) = 0 := by omega
        have hzB : ¬ ((checkL B : Nat) : Int) = 0 := by omega
        go_wp2
        go_ret
        exact ⟨rfl, HF6.out⟩
    · have hzA : ¬ ((checkL A : Nat) : Int) = 0 := by omega
      go_wp2
      go_ret
      exact ⟨rfl, HF6.out⟩
end Go.Proofs.Ytnbbgliegfmhpab
