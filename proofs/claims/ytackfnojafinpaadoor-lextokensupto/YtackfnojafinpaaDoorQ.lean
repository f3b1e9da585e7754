/- The document's letter, digit, upper; its words. -/
import Derived.Test.YtackfnojafinpaaDoorN
import Derived.Deep.RegionWith
import Derived.Lib.SlBytesConst
namespace Go.Proofs.YtackfnojafinpaaDoor
open Go.RowKit
set_option linter.unusedVariables false

set_option maxHeartbeats 1000000 in
theorem rlet_any (b : UInt8) (w : World) : Calls Tryd.prog 32 #[.int .u8 b.toNat] w fun e w' => e = .returned (.bool (letB b)) ∧ w' = w := by
  have hg := letB_int b
  generalize (b.toNat : Int) = n at *
  by_cases h9 : n = 95
  · have e : letB b = true := by rw [hg]; simp [h9]
    rw [e]; subst h9
    clear hg e
    go_enter Tryd.func32, Tryd.ntmps32
    go_wp2
    go_ret
    exact ⟨rfl, rfl⟩
  · by_cases h1 : 65 ≤ n
    · by_cases h2 : n ≤ 90
      · have e : letB b = true := by rw [hg]; simp [h1, h2]
        rw [e]
        clear hg e
        go_enter Tryd.func32, Tryd.ntmps32
        go_wp2
        go_ret
        exact ⟨by first | rfl | (simp; omega) | simp, rfl⟩
      · by_cases h3 : 97 ≤ n
        · by_cases h4 : n ≤ 122
          · have e : letB b = true := by rw [hg]; simp [h3, h4]
            rw [e]
            clear hg e
            go_enter Tryd.func32, Tryd.ntmps32
            go_wp2
            go_ret
            exact ⟨by first | rfl | (simp; omega) | simp, rfl⟩
          · have e : letB b = false := by rw [hg]; simp [h2, h4, h9]
            rw [e]
            clear hg e
            go_enter Tryd.func32, Tryd.ntmps32
            go_wp2
            go_ret
            exact ⟨by first | rfl | (simp; omega) | simp, rfl⟩
        · have e : letB b = false := by rw [hg]; simp [h2, h3, h9]
          rw [e]
          clear hg e
          go_enter Tryd.func32, Tryd.ntmps32
          go_wp2
          go_ret
          exact ⟨by first | rfl | (simp; omega) | simp, rfl⟩
    · have e : letB b = false := by rw [hg]; simp [h1, h9]; omega
      rw [e]
      clear hg e
      go_enter Tryd.func32, Tryd.ntmps32
      go_wp2
      go_ret
      exact ⟨by first | rfl | (simp; omega) | simp, rfl⟩
set_option maxHeartbeats 1000000 in
theorem rdig_any (b : UInt8) (w : World) : Calls Tryd.prog 33 #[.int .u8 b.toNat] w fun e w' => e = .returned (.bool (digB b)) ∧ w' = w := by
  have hg := digB_int b
  generalize (b.toNat : Int) = n at *
  by_cases h0 : 48 ≤ n
  · have e : digB b = decide (n ≤ 57) := by rw [hg]; simp [h0]
    rw [e]
    clear hg e
    go_enter Tryd.func33, Tryd.ntmps33
    go_wp2
    go_ret
    exact ⟨by first | rfl | (simp; omega) | simp, rfl⟩
  · have e : digB b = false := by rw [hg]; simp [h0]
    rw [e]
    clear hg e
    go_enter Tryd.func33, Tryd.ntmps33
    go_wp2
    go_ret
    exact ⟨by first | rfl | (simp; omega) | simp, rfl⟩
theorem upperB_nat (b : UInt8) : (Lib.upperB b).toNat = if 97 ≤ b.toNat ∧ b.toNat ≤ 122 then b.toNat - 32 else b.toNat := by
  have h := Lib.isLowerB_int b
  unfold Lib.upperB
  by_cases hc : 97 ≤ b.toNat ∧ b.toNat ≤ 122
  · rw [h, if_pos hc]
    have : (decide ((97 : Int) ≤ (b.toNat : Int)) && decide ((b.toNat : Int) ≤ 122)) = true := by simp; omega
    rw [this]
    simp only [if_true]
    rw [UInt8.toNat_sub_of_le _ _ (by rw [UInt8.le_iff_toNat_le]; simp; omega)]
    rfl
  · rw [h, if_neg hc]
    have : (decide ((97 : Int) ≤ (b.toNat : Int)) && decide ((b.toNat : Int) ≤ 122)) = false := by simp; omega
    rw [this]
    rfl
set_option maxHeartbeats 1000000 in
theorem rup_any (b : UInt8) (w : World) : Calls Tryd.prog 34 #[.int .u8 b.toNat] w fun e w' => e = .returned (.int .u8 (Lib.upperB b).toNat) ∧ w' = w := by
  have hu := upperB_nat b
  have hlt := b.toNat_lt
  by_cases h0 : (97 : Int) ≤ b.toNat
  · by_cases h1 : (b.toNat : Int) ≤ 122
    · rw [hu, if_pos (by omega)]
      have hs : ((b.toNat - 32 : Nat) : Int) = (b.toNat : Int) - 32 := by omega
      rw [hs]
      generalize (b.toNat : Int) = n at *
      clear hu hs
      go_enter Tryd.func34, Tryd.ntmps34
      go_wp2
      go_ret
      exact ⟨rfl, rfl⟩
    · rw [hu, if_neg (by omega)]
      generalize (b.toNat : Int) = n at *
      clear hu
      go_enter Tryd.func34, Tryd.ntmps34
      go_wp2
      go_ret
      exact ⟨rfl, rfl⟩
  · rw [hu, if_neg (by omega)]
    generalize (b.toNat : Int) = n at *
    clear hu
    go_enter Tryd.func34, Tryd.ntmps34
    go_wp2
    go_ret
    exact ⟨rfl, rfl⟩
end Go.Proofs.YtackfnojafinpaaDoor
