/- The walks of isGap, isLetter, isDigit, the closures, pass. -/
import Derived.Test.YtackfnojafinpaaDoorB
import Derived.Test.YtackfnojafinpaaDoorLay
namespace Go.Proofs.YtackfnojafinpaaDoor
open Go.RowKit
set_option linter.unusedVariables false

theorem beq_int (b c : UInt8) : (b == c) = decide ((b.toNat : Int) = (c.toNat : Int)) := by
  rw [Bool.eq_iff_iff]; simp [← UInt8.toNat_inj]; omega
theorem le_int (b c : UInt8) : decide (b ≤ c) = decide ((b.toNat : Int) ≤ (c.toNat : Int)) := by
  simp [UInt8.le_iff_toNat_le]
theorem gapB_int (b : UInt8) : gapB b = (decide ((b.toNat : Int) = 32) || decide ((b.toNat : Int) = 9) || decide ((b.toNat : Int) = 10)) := by
  simp only [gapB, beq_int]; rfl
theorem digB_int (b : UInt8) : digB b = (decide ((48 : Int) ≤ b.toNat) && decide ((b.toNat : Int) ≤ 57)) := by
  simp only [digB, le_int]; rfl
theorem letB_int (b : UInt8) : letB b = ((decide ((97 : Int) ≤ b.toNat) && decide ((b.toNat : Int) ≤ 122)) || (decide ((65 : Int) ≤ b.toNat) && decide ((b.toNat : Int) ≤ 90)) || decide ((b.toNat : Int) = 95)) := by
  simp only [letB, le_int, beq_int]; rfl
theorem freeB_int (b : UInt8) : freeB b = !decide ((b.toNat : Int) = 39) := by
  simp only [freeB, bne, beq_int]; rfl

set_option maxHeartbeats 1000000 in
theorem gap_any (b : UInt8) (w : World) : Calls Tryd.prog 19 #[.int .u8 b.toNat] w fun e w' => e = .returned (.bool (gapB b)) ∧ w' = w := by
  have hg := gapB_int b
  generalize (b.toNat : Int) = n at *
  by_cases h0 : n = 32
  · rw [hg, h0]
    subst h0
    clear hg
    go_enter Tryd.func19, Tryd.ntmps19
    go_wp2
    go_ret
    exact ⟨rfl, rfl⟩
  · by_cases h1 : n = 9
    · rw [hg, h1]
      subst h1
      clear hg
      go_enter Tryd.func19, Tryd.ntmps19
      go_wp2
      go_ret
      exact ⟨rfl, rfl⟩
    · have e : gapB b = (n == 32 || n == 9 || n == 10) := by rw [hg]; rfl
      rw [e]
      clear hg e
      go_enter Tryd.func19, Tryd.ntmps19
      go_wp2
      go_ret
      exact ⟨rfl, rfl⟩
set_option maxHeartbeats 1000000 in
theorem dig_any (b : UInt8) (w : World) : Calls Tryd.prog 24 #[.int .u8 b.toNat] w fun e w' => e = .returned (.bool (digB b)) ∧ w' = w := by
  have hg := digB_int b
  generalize (b.toNat : Int) = n at *
  by_cases h0 : 48 ≤ n
  · have e : digB b = decide (n ≤ 57) := by rw [hg]; simp [h0]
    rw [e]
    clear hg e
    go_enter Tryd.func24, Tryd.ntmps24
    go_wp2
    go_ret
    exact ⟨rfl, rfl⟩
  · have e : digB b = false := by rw [hg]; simp [h0]
    rw [e]
    clear hg e
    go_enter Tryd.func24, Tryd.ntmps24
    go_wp2
    go_ret
    exact ⟨rfl, rfl⟩
set_option maxHeartbeats 1000000 in
theorem let_any (b : UInt8) (w : World) : Calls Tryd.prog 22 #[.int .u8 b.toNat] w fun e w' => e = .returned (.bool (letB b)) ∧ w' = w := by
  have hg := letB_int b
  generalize (b.toNat : Int) = n at *
  by_cases h0 : 97 ≤ n
  · by_cases h1 : n ≤ 122
    · have e : letB b = true := by rw [hg]; simp [h0, h1]
      rw [e]
      clear hg e
      go_enter Tryd.func22, Tryd.ntmps22
      go_wp2
      go_ret
      exact ⟨rfl, rfl⟩
    · have e : letB b = false := by rw [hg]; simp [h0, h1]; omega
      rw [e]
      clear hg e
      go_enter Tryd.func22, Tryd.ntmps22
      go_wp2
      go_ret
      exact ⟨by simp; omega, rfl⟩
  · by_cases h1 : 65 ≤ n
    · by_cases h2 : n ≤ 90
      · have e : letB b = true := by rw [hg]; simp [h1, h2]
        rw [e]
        clear hg e
        go_enter Tryd.func22, Tryd.ntmps22
        go_wp2
        go_ret
        exact ⟨rfl, rfl⟩
      · have e : letB b = decide (n = 95) := by rw [hg]; simp [h0, h1, h2]
        rw [e]
        clear hg e
        go_enter Tryd.func22, Tryd.ntmps22
        go_wp2
        go_ret
        exact ⟨rfl, rfl⟩
    · have e : letB b = false := by rw [hg]; simp [h0, h1]; omega
      rw [e]
      clear hg e
      go_enter Tryd.func22, Tryd.ntmps22
      go_wp2
      go_ret
      exact ⟨by simp; omega, rfl⟩
set_option maxHeartbeats 1000000 in
theorem free_any (b : UInt8) (w : World) : Calls Tryd.prog 27 #[.int .u8 b.toNat] w fun e w' => e = .returned (.bool (freeB b)) ∧ w' = w := by
  have hg := freeB_int b
  generalize (b.toNat : Int) = n at *
  rw [hg]
  clear hg
  go_enter Tryd.func27, Tryd.ntmps27
  go_wp2
  go_ret
  exact ⟨rfl, rfl⟩
set_option maxHeartbeats 1000000 in
theorem word1_any (b : UInt8) (w : World) : Calls Tryd.prog 23 #[.int .u8 b.toNat] w fun e w' => e = .returned (.bool (wordB b)) ∧ w' = w := by
  have h1 := let_any b
  have h2 := dig_any b
  generalize (b.toNat : Int) = n at *
  unfold wordB
  cases hl : letB b with
  | true =>
    rw [hl] at h1
    go_enter Tryd.func23, Tryd.ntmps23
    go_wp2_with (go_at_call 22; refine (h1 _).mono ?_; rintro e w' ⟨rfl, rfl⟩)
    go_ret
    exact ⟨rfl, rfl⟩
  | false =>
    rw [hl] at h1
    go_enter Tryd.func23, Tryd.ntmps23
    go_wp2_with (first | (go_at_call 22; refine (h1 _).mono ?_; rintro e w' ⟨rfl, rfl⟩) | (go_at_call 24; refine (h2 _).mono ?_; rintro e w' ⟨rfl, rfl⟩))
    go_ret
    exact ⟨rfl, rfl⟩
/-- Where what is passed ends. -/
def passN (p : UInt8 → Bool) (s : ByteArray) (m : Nat) : Nat := m + runL p (s.data.toList.drop m)
theorem passN_eq (p : UInt8 → Bool) (s : ByteArray) (m : Nat) : passN p s m = m + runL p (s.data.toList.drop m) := rfl
theorem drop_byte (s : ByteArray) (k : Nat) (h : k < s.size) : s.data.toList.drop k = s[k] :: s.data.toList.drop (k + 1) := by
  rw [List.drop_eq_getElem_cons (by simpa using h)]; rfl
theorem drop_end (s : ByteArray) (k : Nat) (h : s.size ≤ k) : s.data.toList.drop k = [] := List.drop_eq_nil_of_le (by simpa using h)
set_option maxHeartbeats 1000000 in
theorem pass_gap (s : ByteArray) (m : Nat) (w : World) (hs : s.size ≤ 4503599627370496) (hm : m ≤ s.size) :
    Calls Tryd.prog 18 #[.string s, .int .i64 m, .func (.func 19) #[] #[]] w fun e w' => e = .returned (.int .i64 (passN gapB s m)) ∧ w' = w := by
  go_enter Tryd.func18, Tryd.ntmps18
  go_wp2
  go_loop [1] (fun i => ∃ k : Nat, k ≤ s.size ∧ i = .int .i64 k ∧ m + runL gapB (s.data.toList.drop m) = k + runL gapB (s.data.toList.drop k)) (fun i => s.size - (intOf i).toNat)
  case atStart => exact ⟨m, hm, rfl, rfl⟩
  case round =>
    obtain ⟨k, hk, rfl, hrun⟩ := hrel
    have HR := hide hrun
    clear hrun
    by_cases hlt : k < s.size
    · have hc := gap_any s[k]
      have hd := drop_byte s k hlt
      cases hp : gapB s[k] with
      | true =>
        have HR2 := hide (show m + runL gapB (s.data.toList.drop m) = (k + 1) + runL gapB (s.data.toList.drop (k + 1)) by rw [HR.out, hd, runL_cons_yes hp]; omega)
        rw [hp] at hc
        clear hd hp HR
        go_wp2_with (go_at_call 19; refine (hc _).mono ?_; rintro e w' ⟨rfl, rfl⟩)
        go_round
        case rel => exact ⟨k + 1, by omega, by go_num, HR2.out⟩
        case measure => simp [intOf]; omega
      | false =>
        have HR2 := hide (show passN gapB s m = k by rw [passN_eq]; rw [HR.out, hd, runL_cons_no hp]; omega)
        rw [hp] at hc
        clear hd hp HR
        go_wp2_with (go_at_call 19; refine (hc _).mono ?_; rintro e w' ⟨rfl, rfl⟩)
        go_ret
        rw [HR2.out]
        exact ⟨rfl, rfl⟩
    · have HR2 := hide (show passN gapB s m = k by rw [passN_eq]; rw [HR.out, drop_end s k (by omega)]; rfl)
      clear HR
      go_wp2
      go_ret
      rw [HR2.out]
      exact ⟨rfl, rfl⟩
set_option maxHeartbeats 1000000 in
theorem pass_word (s : ByteArray) (m : Nat) (w : World) (hs : s.size ≤ 4503599627370496) (hm : m ≤ s.size) :
    Calls Tryd.prog 18 #[.string s, .int .i64 m, .func (.func 23) #[] #[]] w fun e w' => e = .returned (.int .i64 (passN wordB s m)) ∧ w' = w := by
  go_enter Tryd.func18, Tryd.ntmps18
  go_wp2
  go_loop [1] (fun i => ∃ k : Nat, k ≤ s.size ∧ i = .int .i64 k ∧ m + runL wordB (s.data.toList.drop m) = k + runL wordB (s.data.toList.drop k)) (fun i => s.size - (intOf i).toNat)
  case atStart => exact ⟨m, hm, rfl, rfl⟩
  case round =>
    obtain ⟨k, hk, rfl, hrun⟩ := hrel
    have HR := hide hrun
    clear hrun
    by_cases hlt : k < s.size
    · have hc := word1_any s[k]
      have hd := drop_byte s k hlt
      cases hp : wordB s[k] with
      | true =>
        have HR2 := hide (show m + runL wordB (s.data.toList.drop m) = (k + 1) + runL wordB (s.data.toList.drop (k + 1)) by rw [HR.out, hd, runL_cons_yes hp]; omega)
        rw [hp] at hc
        clear hd hp HR
        go_wp2_with (go_at_call 23; refine (hc _).mono ?_; rintro e w' ⟨rfl, rfl⟩)
        go_round
        case rel => exact ⟨k + 1, by omega, by go_num, HR2.out⟩
        case measure => simp [intOf]; omega
      | false =>
        have HR2 := hide (show passN wordB s m = k by rw [passN_eq]; rw [HR.out, hd, runL_cons_no hp]; omega)
        rw [hp] at hc
        clear hd hp HR
        go_wp2_with (go_at_call 23; refine (hc _).mono ?_; rintro e w' ⟨rfl, rfl⟩)
        go_ret
        rw [HR2.out]
        exact ⟨rfl, rfl⟩
    · have HR2 := hide (show passN wordB s m = k by rw [passN_eq]; rw [HR.out, drop_end s k (by omega)]; rfl)
      clear HR
      go_wp2
      go_ret
      rw [HR2.out]
      exact ⟨rfl, rfl⟩
set_option maxHeartbeats 1000000 in
theorem pass_dig (s : ByteArray) (m : Nat) (w : World) (hs : s.size ≤ 4503599627370496) (hm : m ≤ s.size) :
    Calls Tryd.prog 18 #[.string s, .int .i64 m, .func (.func 24) #[] #[]] w fun e w' => e = .returned (.int .i64 (passN digB s m)) ∧ w' = w := by
  go_enter Tryd.func18, Tryd.ntmps18
  go_wp2
  go_loop [1] (fun i => ∃ k : Nat, k ≤ s.size ∧ i = .int .i64 k ∧ m + runL digB (s.data.toList.drop m) = k + runL digB (s.data.toList.drop k)) (fun i => s.size - (intOf i).toNat)
  case atStart => exact ⟨m, hm, rfl, rfl⟩
  case round =>
    obtain ⟨k, hk, rfl, hrun⟩ := hrel
    have HR := hide hrun
    clear hrun
    by_cases hlt : k < s.size
    · have hc := dig_any s[k]
      have hd := drop_byte s k hlt
      cases hp : digB s[k] with
      | true =>
        have HR2 := hide (show m + runL digB (s.data.toList.drop m) = (k + 1) + runL digB (s.data.toList.drop (k + 1)) by rw [HR.out, hd, runL_cons_yes hp]; omega)
        rw [hp] at hc
        clear hd hp HR
        go_wp2_with (go_at_call 24; refine (hc _).mono ?_; rintro e w' ⟨rfl, rfl⟩)
        go_round
        case rel => exact ⟨k + 1, by omega, by go_num, HR2.out⟩
        case measure => simp [intOf]; omega
      | false =>
        have HR2 := hide (show passN digB s m = k by rw [passN_eq]; rw [HR.out, hd, runL_cons_no hp]; omega)
        rw [hp] at hc
        clear hd hp HR
        go_wp2_with (go_at_call 24; refine (hc _).mono ?_; rintro e w' ⟨rfl, rfl⟩)
        go_ret
        rw [HR2.out]
        exact ⟨rfl, rfl⟩
    · have HR2 := hide (show passN digB s m = k by rw [passN_eq]; rw [HR.out, drop_end s k (by omega)]; rfl)
      clear HR
      go_wp2
      go_ret
      rw [HR2.out]
      exact ⟨rfl, rfl⟩
set_option maxHeartbeats 1000000 in
theorem pass_free (s : ByteArray) (m : Nat) (w : World) (hs : s.size ≤ 4503599627370496) (hm : m ≤ s.size) :
    Calls Tryd.prog 18 #[.string s, .int .i64 m, .func (.func 27) #[] #[]] w fun e w' => e = .returned (.int .i64 (passN freeB s m)) ∧ w' = w := by
  go_enter Tryd.func18, Tryd.ntmps18
  go_wp2
  go_loop [1] (fun i => ∃ k : Nat, k ≤ s.size ∧ i = .int .i64 k ∧ m + runL freeB (s.data.toList.drop m) = k + runL freeB (s.data.toList.drop k)) (fun i => s.size - (intOf i).toNat)
  case atStart => exact ⟨m, hm, rfl, rfl⟩
  case round =>
    obtain ⟨k, hk, rfl, hrun⟩ := hrel
    have HR := hide hrun
    clear hrun
    by_cases hlt : k < s.size
    · have hc := free_any s[k]
      have hd := drop_byte s k hlt
      cases hp : freeB s[k] with
      | true =>
        have HR2 := hide (show m + runL freeB (s.data.toList.drop m) = (k + 1) + runL freeB (s.data.toList.drop (k + 1)) by rw [HR.out, hd, runL_cons_yes hp]; omega)
        rw [hp] at hc
        clear hd hp HR
        go_wp2_with (go_at_call 27; refine (hc _).mono ?_; rintro e w' ⟨rfl, rfl⟩)
        go_round
        case rel => exact ⟨k + 1, by omega, by go_num, HR2.out⟩
        case measure => simp [intOf]; omega
      | false =>
        have HR2 := hide (show passN freeB s m = k by rw [passN_eq]; rw [HR.out, hd, runL_cons_no hp]; omega)
        rw [hp] at hc
        clear hd hp HR
        go_wp2_with (go_at_call 27; refine (hc _).mono ?_; rintro e w' ⟨rfl, rfl⟩)
        go_ret
        rw [HR2.out]
        exact ⟨rfl, rfl⟩
    · have HR2 := hide (show passN freeB s m = k by rw [passN_eq]; rw [HR.out, drop_end s k (by omega)]; rfl)
      clear HR
      go_wp2
      go_ret
      rw [HR2.out]
      exact ⟨rfl, rfl⟩
end Go.Proofs.YtackfnojafinpaaDoor
