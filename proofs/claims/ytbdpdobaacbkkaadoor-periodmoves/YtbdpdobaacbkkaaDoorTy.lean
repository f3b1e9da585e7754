/- The walk of PeriodTurns. -/
import Derived.Test.YtbdpdobaacbkkaaDoorTw
namespace Go.Proofs.YtbdpdobaacbkkaaDoor
open Go.RowKit
set_option linter.unusedVariables false

structure Bx3 (V : World) (g : Nat) (a b c : Per) : Prop where
  ta : Two V g (.int .i64 a.lo) (.int .i64 a.hi)
  tb : Two V (g + 1) (.int .i64 b.lo) (.int .i64 b.hi)
  tc : Two V (g + 1 + 1) (.int .i64 c.lo) (.int .i64 c.hi)
theorem Bx3.fr {V V' : World} {g : Nat} {a b c : Per} (h : Bx3 V g a b c) (hf : Fr V V' (fun _ => False)) : Bx3 V' g a b c := ⟨h.ta.fr hf (fun h => h), h.tb.fr hf (fun h => h), h.tc.fr hf (fun h => h)⟩
def bx3c (w : World) (a b c : Per) : World := ((w.alloc (.cells #[.int .i64 a.lo, .int .i64 a.hi] 23)).alloc (.cells #[.int .i64 b.lo, .int .i64 b.hi] 23)).alloc (.cells #[.int .i64 c.lo, .int .i64 c.hi] 23)
theorem bx3c_fr (w : World) (a b c : Per) : Fr w (bx3c w a b c) (fun _ => False) := (up_two.trans (Fr.alloc _ _ (fun _ => False))).mono (by simp)
theorem bx3c_bx (w : World) (a b c : Per) : Bx3 (bx3c w a b c) w.heap.size a b c := by
  have h2 := (two_of (heap_alloc_new (w.alloc (.cells #[.int .i64 a.lo, .int .i64 a.hi] 23)) (.cells #[.int .i64 b.lo, .int .i64 b.hi] 23))).fr (Fr.alloc _ (.cells #[.int .i64 c.lo, .int .i64 c.hi] 23) (fun _ => False)) (fun h => h)
  have h3 := two_of (heap_alloc_new ((w.alloc (.cells #[.int .i64 a.lo, .int .i64 a.hi] 23)).alloc (.cells #[.int .i64 b.lo, .int .i64 b.hi] 23)) (.cells #[.int .i64 c.lo, .int .i64 c.hi] 23))
  simp only [World.size_alloc] at h2 h3
  exact ⟨(two_of (heap_alloc_new w _)).fr up_two (fun h => h), h2, h3⟩
theorem relV_range (a b : Per) : 0 ≤ relV a b ∧ relV a b ≤ 13 := by
  unfold relV relN relIn
  (repeat' split) <;> omega

set_option maxRecDepth 100000 in
set_option maxHeartbeats 4000000 in
theorem turns_walk (a b c : Per) (w : World) (htab : Tab w) : Calls Tryd.prog 4 #[perV a, perV b, perV c] w fun e w' => e = .returned (.bool true) ∧ Fr w w' (fun _ => False) := by
  have HBX := hide (bx3c_bx w a b c)
  have HF0 := hide (bx3c_fr w a b c)
  have HTB := hide htab
  have h1 := relate_any a b
  have h2 := relate_any b a
  have h3 := relate_any b c
  have h4 := relate_any a c
  have HRT := hide (relE_turn a b)
  have HWV := hide (relV_wrong a b)
  have HWV2 := hide (relV_wrong b a)
  have HVT := hide (relV_turn a b)
  have HVB := hide (relV_before a b c)
  have HVE := hide (relV_equal a b)
  have r1 := relV_range a b
  have r2 := relV_range b a
  unfold perV at h1 h2 h3 h4 ⊢
  rw [← HRT.out] at h2 HWV2
  generalize relV a b = x at *
  generalize relV b a = y at *
  generalize relV b c = z at *
  generalize relV a c = v at *
  generalize relE a b = e1 at *
  generalize relE b c = e2 at *
  generalize relE a c = e3 at *
  clear htab HRT
  go_enter Tryd.func4, Tryd.ntmps4
  go_wp2_with fail
  change Calls Tryd.prog 7 _ (bx3c w a b c) _
  obtain ⟨W0, hW0⟩ : ∃ W0, W0 = bx3c w a b c := ⟨_, rfl⟩
  obtain ⟨gb, hgb⟩ : ∃ gb, gb = w.heap.size := ⟨_, rfl⟩
  rw [← hW0] at HBX HF0 ⊢
  rw [← hgb] at HBX ⊢
  clear hW0 hgb
  refine (awake_any W0).mono ?_
  rintro e W1 ⟨rfl, f1⟩
  have HB1 := hide (HBX.out.fr f1)
  have HF1 := hide ((HF0.out.trans f1).mono (Y := fun _ => False) (by simp))
  have t0 := HB1.out.ta.1
  have t1 := HB1.out.ta.2.1
  have t2 := HB1.out.tb.1
  have t3 := HB1.out.tb.2.1
  clear f1 HBX HF0
  go_wp2_with fail
  refine (h1 W1 (HTB.out.fr HF1.out)).mono ?_
  rintro e W2 ⟨rfl, f2⟩
  have HB2 := hide (HB1.out.fr f2)
  have HF2 := hide ((HF1.out.trans f2).mono (Y := fun _ => False) (by simp))
  clear f2 HB1 HF1 t0 t1 t2 t3 h1
  have t0 := HB2.out.ta.1
  have t1 := HB2.out.ta.2.1
  have t2 := HB2.out.tb.1
  have t3 := HB2.out.tb.2.1
  go_wp2_with fail
  refine (h2 W2 (HTB.out.fr HF2.out)).mono ?_
  rintro e W3 ⟨rfl, f3⟩
  have HB3 := hide (HB2.out.fr f3)
  have HF3 := hide ((HF2.out.trans f3).mono (Y := fun _ => False) (by simp))
  clear f3 HB2 HF2 t0 t1 t2 t3 h2
  by_cases he : e1 = 0
  · subst he
    have hxy := HVT.out (by first | rfl | trivial)
    have t0 := HB3.out.tc.1
    have t1 := HB3.out.tc.2.1
    have t2 := HB3.out.tb.1
    have t3 := HB3.out.tb.2.1
    go_wp2_with fail
    refine (h3 W3 (HTB.out.fr HF3.out)).mono ?_
    rintro e W4 ⟨rfl, f4⟩
    have HB4 := hide (HB3.out.fr f4)
    have HF4 := hide ((HF3.out.trans f4).mono (Y := fun _ => False) (by simp))
    clear f4 HB3 HF3 t0 t1 t2 t3 h3
    have t0 := HB4.out.ta.1
    have t1 := HB4.out.ta.2.1
    have t2 := HB4.out.tc.1
    have t3 := HB4.out.tc.2.1
    go_wp2_with fail
    refine (h4 W4 (HTB.out.fr HF4.out)).mono ?_
    rintro e W5 ⟨rfl, f5⟩
    have HB5 := hide (HB4.out.fr f5)
    have HF5 := hide ((HF4.out.trans f5).mono (Y := fun _ => False) (by simp))
    clear f5 HB4 HF4 t0 t1 t2 t3 h4
    obtain rfl : y = 14 - x := by omega
    by_cases hx7 : x = 7
    · subst hx7
      obtain rfl := HVE.out (by first | rfl | trivial) (by first | rfl | trivial)
      have t0 := HB5.out.ta.1
      have t1 := HB5.out.ta.2.1
      have t2 := HB5.out.tb.1
      have t3 := HB5.out.tb.2.1
      by_cases hg : e2 = 0
      · subst hg
        go_wp2
        go_ret
        exact ⟨rfl, HF5.out⟩
      · go_wp2
        go_ret
        exact ⟨rfl, HF5.out⟩
    · by_cases hg : e2 = 0
      · subst hg
        by_cases hx1 : x = 1
        · subst hx1
          by_cases hz1 : z = 1
          · subst hz1
            obtain rfl := HVB.out (by first | rfl | trivial) (by first | rfl | trivial) (by first | rfl | trivial) (by first | rfl | trivial)
            go_wp2
            go_ret
            exact ⟨rfl, HF5.out⟩
          · go_wp2
            go_ret
            exact ⟨rfl, HF5.out⟩
        · have hs : IntKind.i64.wrap (x + (14 - x)) = 14 := by rw [IntKind.wrap_i64] <;> omega
          go_wp2
          go_ret
          exact ⟨rfl, HF5.out⟩
      · have hs : IntKind.i64.wrap (x + (14 - x)) = 14 := by rw [IntKind.wrap_i64] <;> omega
        go_wp2
        go_ret
        exact ⟨rfl, HF5.out⟩
  · obtain rfl := HWV.out he
    obtain rfl := HWV2.out he
    go_wp2
    go_ret
    exact ⟨rfl, HF3.out⟩
end Go.Proofs.YtbdpdobaacbkkaaDoor
