/- The walks of Check, Has, Overlap, the closures, without. -/
import Derived.Test.YtbdpdobaacbkkaaDoorB
import Derived.Test.YtbdpdobaacbkkaaDoorLay
namespace Go.Proofs.YtbdpdobaacbkkaaDoor
open Go.RowKit
set_option linter.unusedVariables false

/-- Is it a period? -/
def rightB (p : Per) : Bool := decide (0 ≤ p.lo ∧ p.lo < p.hi ∧ p.hi ≤ 1099511627776)
theorem rightB_iff (p : Per) : rightB p = true ↔ Right p := by simp [rightB, Right]
def codeP (p : Per) : Int := if rightB p = true then 0 else 40
theorem codeP_ok (p : Per) (h : rightB p = true) : codeP p = 0 := by simp [codeP, h]
theorem codeP_no (p : Per) (h : rightB p = false) : codeP p = 40 := by simp [codeP, h]

set_option maxHeartbeats 1000000 in
theorem check_any (p : Per) (w : World) : Calls Tryd.prog 9 #[perV p] w fun e w' => e = .returned (.int .i64 (codeP p)) ∧ Fr w w' (fun _ => False) := by
  obtain ⟨lo, hi⟩ := p
  have HF := hide (Fr.alloc w (.cells #[.int .i64 lo, .int .i64 hi] 23) (fun _ => False))
  unfold perV
  by_cases h0 : lo < 0
  · rw [codeP_no _ (by simp [rightB]; omega)]
    go_enter Tryd.func9, Tryd.ntmps9
    go_wp2
    go_ret
    exact ⟨rfl, HF.out⟩
  · by_cases h1 : hi ≤ lo
    · rw [codeP_no _ (by simp [rightB]; omega)]
      go_enter Tryd.func9, Tryd.ntmps9
      go_wp2
      go_ret
      exact ⟨rfl, HF.out⟩
    · by_cases h2 : 1099511627776 < hi
      · rw [codeP_no _ (by simp [rightB]; omega)]
        go_enter Tryd.func9, Tryd.ntmps9
        go_wp2
        go_ret
        exact ⟨rfl, HF.out⟩
      · rw [codeP_ok _ (by simp [rightB]; omega)]
        go_enter Tryd.func9, Tryd.ntmps9
        go_wp2
        go_ret
        exact ⟨rfl, HF.out⟩

set_option maxHeartbeats 1000000 in
theorem right_any (p : Per) (w : World) : Calls Tryd.prog 10 #[perV p] w fun e w' => e = .returned (.bool (rightB p)) ∧ Fr w w' (fun _ => False) := by
  obtain ⟨lo, hi⟩ := p
  have HF := hide (Fr.alloc w (.cells #[.int .i64 lo, .int .i64 hi] 23) (fun _ => False))
  unfold perV
  by_cases h0 : 0 ≤ lo
  · by_cases h1 : lo < hi
    · have h2 : rightB ⟨lo, hi⟩ = decide (hi ≤ 1099511627776) := by simp [rightB, h0, h1]
      rw [h2]
      go_enter Tryd.func10, Tryd.ntmps10
      go_wp2
      go_ret
      exact ⟨rfl, HF.out⟩
    · have h2 : rightB ⟨lo, hi⟩ = false := by simp [rightB]; omega
      rw [h2]
      go_enter Tryd.func10, Tryd.ntmps10
      go_wp2
      go_ret
      exact ⟨rfl, HF.out⟩
  · have h2 : rightB ⟨lo, hi⟩ = false := by simp [rightB]; omega
    rw [h2]
    go_enter Tryd.func10, Tryd.ntmps10
    go_wp2
    go_ret
    exact ⟨rfl, HF.out⟩

/-- Is an instant within it? -/
def hasB (p : Per) (t : Int) : Bool := decide (p.lo ≤ t ∧ t < p.hi)
set_option maxHeartbeats 1000000 in
theorem has_any (p : Per) (t : Int) (w : World) : Calls Tryd.prog 11 #[perV p, .int .i64 t] w fun e w' => e = .returned (.bool (hasB p t)) ∧ Fr w w' (fun _ => False) := by
  obtain ⟨lo, hi⟩ := p
  have HF := hide (Fr.alloc w (.cells #[.int .i64 lo, .int .i64 hi] 23) (fun _ => False))
  unfold perV
  by_cases h0 : lo ≤ t
  · have h2 : hasB ⟨lo, hi⟩ t = decide (t < hi) := by simp [hasB, h0]
    rw [h2]
    go_enter Tryd.func11, Tryd.ntmps11
    go_wp2
    go_ret
    exact ⟨rfl, HF.out⟩
  · have h2 : hasB ⟨lo, hi⟩ t = false := by simp [hasB]; omega
    rw [h2]
    go_enter Tryd.func11, Tryd.ntmps11
    go_wp2
    go_ret
    exact ⟨rfl, HF.out⟩
set_option maxHeartbeats 1000000 in
theorem rhas_any (p : Per) (t : Int) (w : World) : Calls Tryd.prog 12 #[perV p, .int .i64 t] w fun e w' => e = .returned (.bool (hasB p t)) ∧ Fr w w' (fun _ => False) := by
  obtain ⟨lo, hi⟩ := p
  have HF := hide (Fr.alloc w (.cells #[.int .i64 lo, .int .i64 hi] 23) (fun _ => False))
  unfold perV
  by_cases h0 : lo ≤ t
  · have h2 : hasB ⟨lo, hi⟩ t = decide (t < hi) := by simp [hasB, h0]
    rw [h2]
    go_enter Tryd.func12, Tryd.ntmps12
    go_wp2
    go_ret
    exact ⟨rfl, HF.out⟩
  · have h2 : hasB ⟨lo, hi⟩ t = false := by simp [hasB]; omega
    rw [h2]
    go_enter Tryd.func12, Tryd.ntmps12
    go_wp2
    go_ret
    exact ⟨rfl, HF.out⟩

set_option maxHeartbeats 1000000 in
theorem drop_any (p : Per) (w : World) : Calls Tryd.prog 23 #[perV p] w fun e w' => e = .returned (.bool (!rightB p)) ∧ Fr w w' (fun _ => False) := by
  have HF := hide (Fr.alloc w (.cells #[.int .i64 p.lo, .int .i64 p.hi] 23) (fun _ => False))
  have hc := check_any p
  unfold perV at *
  by_cases h : rightB p = true
  · rw [h]
    rw [codeP_ok p h] at hc
    go_enter Tryd.func23, Tryd.ntmps23
    go_wp2_with (go_at_call 9; refine (hc _).mono ?_; rintro e V ⟨rfl, f⟩; have HV := hide f; clear f)
    go_ret
    exact ⟨rfl, (HF.out.trans HV.out).mono (by simp)⟩
  · have h' : rightB p = false := by simpa using h
    rw [h']
    rw [codeP_no p h'] at hc
    go_enter Tryd.func23, Tryd.ntmps23
    go_wp2_with (go_at_call 9; refine (hc _).mono ?_; rintro e V ⟨rfl, f⟩; have HV := hide f; clear f)
    go_ret
    exact ⟨rfl, (HF.out.trans HV.out).mono (by simp)⟩
end Go.Proofs.YtbdpdobaacbkkaaDoor
