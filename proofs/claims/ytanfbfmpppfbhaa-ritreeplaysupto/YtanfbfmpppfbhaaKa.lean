/- RitreeForks: the walk. -/
import Derived.Test.YtanfbfmpppfbhaaIi
import Derived.Test.YtanfbfmpppfbhaaJi
namespace Go.Proofs.Ytanfbfmpppfbhaa
open Go.RowKit
set_option maxRecDepth 100000
set_option linter.unusedVariables false
set_option linter.unusedSimpArgs false

theorem longs_same {w : World} {v1 v2 : Value} {A : List Int} (h1 : OwnI w v1 A) (h2 : OwnI w v2 A) : Calls Try.prog 14 #[v1, v2] w fun e w' => e = .returned (.bool true) ∧ Fr w w' (fun _ => False) := by
  refine (longs_any h1 h2).mono ?_
  rintro e w' ⟨rfl, h⟩
  exact ⟨by rw [decide_eq_true rfl], h⟩
set_option maxHeartbeats 4000000 in
theorem forks_walk (p : Per) (w : World) : Calls Try.prog 3 #[perV p] w fun e w' => e = .returned (.bool true) ∧ Fr w w' (fun _ => False) := by
  obtain ⟨g, hg⟩ : ∃ g, g = w.heap.size := ⟨_, rfl⟩
  obtain ⟨w1, hw1⟩ : ∃ w1, w1 = w.alloc (.cells (cellsP p).toArray 23) := ⟨_, rfl⟩
  have f1 : Fr w w1 (fun _ => False) := by rw [hw1]; exact Fr.alloc w _ _
  have b1 : Two w1 g (.int .i64 p.lo) (.int .i64 p.hi) := by rw [hw1, hg]; exact two_of (heap_alloc_new w _)
  have HAW := hide (awake_any w1)
  have HFK := hide (fork_any p)
  have HRF := hide (rfork_any p)
  have HND := hide (nodes_any p)
  have HRN := hide (rnodes_any p)
  obtain ⟨F, hF⟩ : ∃ F, F = forkV p := ⟨_, rfl⟩
  obtain ⟨C, hC⟩ : ∃ C, C = codeP p := ⟨_, rfl⟩
  rw [← hF, ← hC] at HFK HRF
  have HCC := hide hC
  have hee : (C == C) = true := by simp
  obtain ⟨lo, hi⟩ := p
  have HF1 := hide f1
  have HB1 := hide b1
  have HW := hide hw1
  have HG := hide hg
  clear f1 b1 hw1 hg hF hC
  unfold perV cellsP at *
  go_enter Try.func3, Try.ntmps3
  go_wp2_with (rw [← HW.out, ← HG.out]; clear HW)
  refine HAW.out.mono ?_
  rintro e w2 ⟨rfl, f2⟩
  have HT2 := hide (HB1.out.fr f2 (fun h => h))
  have HF2 := hide ((HF1.out.trans f2).mono (Y := fun _ => False) (by simp))
  have d0 := HT2.out.1
  have d1 := HT2.out.2.1
  clear f2 HAW HB1 HF1
  go_wp2_with fail
  refine (HFK.out w2).mono ?_
  rintro e w3 ⟨rfl, f3⟩
  have HT3 := hide (HT2.out.fr f3 (fun h => h))
  have HF3 := hide ((HF2.out.trans f3).mono (Y := fun _ => False) (by simp))
  have e0 := HT3.out.1
  have e1 := HT3.out.2.1
  clear f3 HFK HT2 HF2 d0 d1
  go_wp2_with fail
  refine (HRF.out w3).mono ?_
  rintro e w4 ⟨rfl, f4⟩
  have HT4 := hide (HT3.out.fr f4 (fun h => h))
  have HF4 := hide ((HF3.out.trans f4).mono (Y := fun _ => False) (by simp))
  have d0 := HT4.out.1
  have d1 := HT4.out.2.1
  clear f4 HRF HT3 HF3 e0 e1
  go_wp2_with fail
  refine (HND.out w4).mono ?_
  rintro e w5 ⟨v1, v2, rfl, o1, o2, f5, q1, q2⟩
  have HT5 := hide (HT4.out.fr f5 (fun h => h))
  have HF5 := hide ((HF4.out.trans f5).mono (Y := fun _ => False) (by simp))
  have HO1 := hide o1
  have HO2 := hide o2
  have e0 := HT5.out.1
  have e1 := HT5.out.2.1
  clear f5 o1 o2 q1 q2 HND HT4 HF4 d0 d1
  rw [← HCC.out]
  go_wp2_with fail
  refine (HRN.out w5).mono ?_
  rintro e w6 ⟨v3, v4, rfl, o3, o4, f6⟩
  have HF6 := hide ((HF5.out.trans f6).mono (Y := fun _ => False) (by simp))
  have HL1 := hide (longs_same (HO1.out.fr f6 (fun _ _ h => h)) o3)
  have HO2' := hide (HO2.out.fr f6 (fun _ _ h => h))
  have HO4 := hide o4
  clear f6 o3 o4 HRN HT5 HF5 e0 e1
  rw [← HCC.out]
  go_wp2_with fail
  refine HL1.out.mono ?_
  rintro e w7 ⟨rfl, f7⟩
  have HL2 := hide (longs_same (HO2'.out.fr f7 (fun _ _ h => h)) (HO4.out.fr f7 (fun _ _ h => h)))
  have HF7 := hide ((HF6.out.trans f7).mono (Y := fun _ => False) (by simp))
  clear f7 HL1
  go_wp2_with fail
  refine HL2.out.mono ?_
  rintro e w8 ⟨rfl, f8⟩
  have HF8 := hide ((HF7.out.trans f8).mono (Y := fun _ => False) (by simp))
  clear f8 HL2
  go_wp2
  go_ret
  exact ⟨rfl, HF8.out⟩
end Go.Proofs.Ytanfbfmpppfbhaa
