/- The walk of the document's Relate. -/
import Derived.Test.YtbdpdobaacbkkaaDoorRl
namespace Go.Proofs.YtbdpdobaacbkkaaDoor
open Go.RowKit
set_option linter.unusedVariables false

set_option maxRecDepth 100000 in
set_option maxHeartbeats 4000000 in
theorem rrelate_any (a b : Per) (w : World) : Calls Tryd.prog 8 #[perV a, perV b] w fun e w' => e = .returned (.tuple #[.int .i64 (relV a b), .int .i64 (relE a b)]) ∧ Fr w w' (fun _ => False) := by
  have HBX := hide (bx2_bx w a b)
  have HF0 := hide (bx2_fr w a b)
  have hca := right_any a
  have hcb := right_any b
  unfold perV at hca hcb ⊢
  go_enter Tryd.func8, Tryd.ntmps8
  go_wp2_with fail
  change Calls Tryd.prog 10 _ (bx2 w a b) _
  obtain ⟨W0, hW0⟩ : ∃ W0, W0 = bx2 w a b := ⟨_, rfl⟩
  obtain ⟨gb, hgb⟩ : ∃ gb, gb = w.heap.size := ⟨_, rfl⟩
  rw [← hW0] at HBX HF0 ⊢
  rw [← hgb] at HBX ⊢
  clear hW0 hgb
  refine (hca W0).mono ?_
  rintro e W1 ⟨rfl, f1⟩
  have HBX1 := hide (HBX.out.fr f1)
  have HF1 := hide ((HF0.out.trans f1).mono (Y := fun _ => False) (by simp))
  clear hca f1 HBX HF0
  by_cases ha : rightB a = true
  · rw [ha]
    have b0 := HBX1.out.tb.1
    have b1 := HBX1.out.tb.2.1
    go_wp2_with fail
    refine (hcb W1).mono ?_
    rintro e W2 ⟨rfl, f2⟩
    have HBX2 := hide (HBX1.out.fr f2)
    have HF2 := hide ((HF1.out.trans f2).mono (Y := fun _ => False) (by simp))
    clear hcb f2 HBX1 HF1 b0 b1
    by_cases hb : rightB b = true
    · rw [hb]
      have ho : relOk a b = true := by simp [relOk, ha, hb]
      have HV := hide (show relV a b = relN a b by simp [relV, ho])
      have HE := hide (show relE a b = 0 by simp [relE, ho])
      have a0 := HBX2.out.ta.1
      have a1 := HBX2.out.ta.2.1
      have b0 := HBX2.out.tb.1
      have b1 := HBX2.out.tb.2.1
      clear ha hb ho
      by_cases h1 : a.hi < b.lo
      · have HN := hide (show relN a b = 1 by unfold relN relIn; (repeat' split) <;> omega)
        go_wp2
        go_ret2
        exact ⟨by rw [HV.out, HE.out, HN.out]; rfl, HF2.out⟩
      · by_cases h2 : a.hi = b.lo
        · have HN := hide (show relN a b = 2 by unfold relN relIn; (repeat' split) <;> omega)
          go_wp2
          go_ret2
          exact ⟨by rw [HV.out, HE.out, HN.out]; rfl, HF2.out⟩
        · by_cases h3 : b.hi < a.lo
          · have HN := hide (show relN a b = 13 by unfold relN relIn; (repeat' split) <;> omega)
            go_wp2
            go_ret2
            exact ⟨by rw [HV.out, HE.out, HN.out]; rfl, HF2.out⟩
          · by_cases h4 : b.hi = a.lo
            · have HN := hide (show relN a b = 12 by unfold relN relIn; (repeat' split) <;> omega)
              go_wp2
              go_ret2
              exact ⟨by rw [HV.out, HE.out, HN.out]; rfl, HF2.out⟩
            · by_cases h5 : a.lo < b.lo
              · by_cases h6 : a.hi < b.hi
                · have HN := hide (show relN a b = 3 by unfold relN relIn; (repeat' split) <;> omega)
                  go_wp2
                  go_ret2
                  exact ⟨by rw [HV.out, HE.out, HN.out]; rfl, HF2.out⟩
                · by_cases h7 : a.hi = b.hi
                  · have HN := hide (show relN a b = 8 by unfold relN relIn; (repeat' split) <;> omega)
                    go_wp2
                    go_ret2
                    exact ⟨by rw [HV.out, HE.out, HN.out]; rfl, HF2.out⟩
                  · have HN := hide (show relN a b = 9 by unfold relN relIn; (repeat' split) <;> omega)
                    go_wp2
                    go_ret2
                    exact ⟨by rw [HV.out, HE.out, HN.out]; rfl, HF2.out⟩
              · by_cases h8 : a.lo = b.lo
                · by_cases h9 : a.hi < b.hi
                  · have HN := hide (show relN a b = 4 by unfold relN relIn; (repeat' split) <;> omega)
                    go_wp2
                    go_ret2
                    exact ⟨by rw [HV.out, HE.out, HN.out]; rfl, HF2.out⟩
                  · by_cases h10 : a.hi = b.hi
                    · have HN := hide (show relN a b = 7 by unfold relN relIn; (repeat' split) <;> omega)
                      go_wp2
                      go_ret2
                      exact ⟨by rw [HV.out, HE.out, HN.out]; rfl, HF2.out⟩
                    · have HN := hide (show relN a b = 10 by unfold relN relIn; (repeat' split) <;> omega)
                      go_wp2
                      go_ret2
                      exact ⟨by rw [HV.out, HE.out, HN.out]; rfl, HF2.out⟩
                · by_cases h12 : a.hi < b.hi
                  · have HN := hide (show relN a b = 5 by unfold relN relIn; (repeat' split) <;> omega)
                    go_wp2
                    go_ret2
                    exact ⟨by rw [HV.out, HE.out, HN.out]; rfl, HF2.out⟩
                  · by_cases h13 : a.hi = b.hi
                    · have HN := hide (show relN a b = 6 by unfold relN relIn; (repeat' split) <;> omega)
                      go_wp2
                      go_ret2
                      exact ⟨by rw [HV.out, HE.out, HN.out]; rfl, HF2.out⟩
                    · have HN := hide (show relN a b = 11 by unfold relN relIn; (repeat' split) <;> omega)
                      go_wp2
                      go_ret2
                      exact ⟨by rw [HV.out, HE.out, HN.out]; rfl, HF2.out⟩
    · have hb' : rightB b = false := by simpa using hb
      have ho : relOk a b = false := by simp [relOk, hb']
      have HV := hide (show relV a b = 0 by simp [relV, ho])
      have HE := hide (show relE a b = 40 by simp [relE, ho])
      rw [hb']
      go_wp2
      go_ret2
      exact ⟨by rw [HV.out, HE.out]; rfl, HF2.out⟩
  · have ha' : rightB a = false := by simpa using ha
    have ho : relOk a b = false := by simp [relOk, ha']
    have HV := hide (show relV a b = 0 by simp [relV, ho])
    have HE := hide (show relE a b = 40 by simp [relE, ho])
    rw [ha']
    go_wp2
    go_ret2
    exact ⟨by rw [HV.out, HE.out]; rfl, HF1.out⟩
end Go.Proofs.YtbdpdobaacbkkaaDoor
