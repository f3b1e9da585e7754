/- The trail is awake. -/
import Derived.Test.YtcmabldfegcdaaaN
namespace Go.Proofs.Ytcmabldfegcdaaa
open Go.RowKit
set_option maxRecDepth 100000
set_option linter.unusedVariables false

def E0 : Ent := ⟨3, 3, 0, 0, 7, []⟩
theorem chk_E0 : chk E0 = 0 := by decide
theorem len_E0 : (encE E0).length = 17 := by simp [encE, E0, length_numB]

set_option maxRecDepth 100000 in
set_option maxHeartbeats 2000000 in
theorem awake_any (w : World) : Calls Try.prog 7 #[] w fun e w' => e = .returned (.bool true) ∧ Fr w w' (fun _ => False) := by
  have hE := encode_any E0 none 0 w (bi_nil w) (fun _ => rfl) (by decide)
  have hD := dec_enc E0 chk_E0 (by decide)
  have HDE := hide (decE_enc E0 chk_E0 (by decide))
  have HDC := hide hD.2
  have HEB := hide (show encB E0 = encE E0 by simp [encB, chk_E0])
  have HL := hide len_E0
  rw [chk_E0] at hE
  unfold entV at hE
  simp only [E0, List.length_nil] at hE
  clear hD
  go_enter Try.func7, Try.ntmps7
  go_wp2_with fail
  refine hE.mono ?_
  rintro x W1 ⟨v1, rfl, o1, f1, _⟩
  have o2 : OwnB W1 v1 (encE E0) := by
    have h := HEB.out
    unfold E0 at h ⊢
    rw [h] at o1
    exact o1
  obtain ⟨a1, c1, hv1⟩ := o2.shape
  rw [HL.out] at hv1
  subst hv1
  have HO := hide o2
  have HF1 := hide f1
  clear o1 o2 f1 hE
  go_wp2_with fail
  refine (decode_any a1 17 c1 (encE E0) W1 HO.out.bi HO.out.cap.1).mono ?_
  rintro x W2 ⟨a2, c2, rfl, hb2, hac2, f2⟩
  rw [HDE.out, HDC.out]
  have HF2 := hide ((HF1.out.trans f2).mono (Y := fun _ => False) (by simp))
  have HE := hide (ebox_eb W2 E0 (.slice a2 0 c2))
  have HF3 := hide ((HF2.out.trans (Fr.alloc W2 (.cells #[.int .i64 3, .int .i64 3, .int .i64 0, .int .i64 0, .int .i64 7, .slice a2 0 c2] 31) (fun _ => False))).mono (Y := fun _ => False) (by simp))
  have x0 := HE.out.c0
  have x1 := HE.out.c1
  have x4 := HE.out.c4
  unfold entV
  simp only [E0, List.length_nil] at x0 x1 x4 ⊢
  clear hb2 hac2 f2 HDE HDC HEB HL HO
  go_wp2
  go_ret
  exact ⟨rfl, HF3.out⟩
end Go.Proofs.Ytcmabldfegcdaaa
