/- Values written: the walk of CodecWrites. -/
import Derived.Test.YtnbbgliegfmhpaaTe
namespace Go.Proofs.Ytnbbgliegfmhpaa
open Go.RowKit

set_option maxRecDepth 100000 in
set_option maxHeartbeats 4000000 in
theorem writes_walk (a : Option Addr) (c : Nat) (L : List Val) (w : World) (hv : Vals w a L) (hL : L.length ≤ 1048576) :
    Calls Try.prog 5 #[.slice a L.length c] w fun e w' => e = .returned (.bool true) ∧ Fr w w' (fun _ => False) := by
  have HV := hide hv
  clear hv
  go_enter Try.func5, Try.ntmps5
  go_wp2_with fail
  refine (awake_any w).mono ?_
  rintro e w1 ⟨rfl, F1⟩
  have HF1 := hide F1
  have HE1 := hide (encode_any a c L w1 (HV.out.keep F1) hL)
  clear F1
  go_wp2_with fail
  refine HE1.out.mono ?_
  clear HE1
  rintro e w2 ⟨x2, rfl, ho2, F2, u2⟩
  obtain ⟨a2, c2, rfl⟩ := ho2.shape
  have HF2 := hide ((HF1.out.trans F2).mono (Y := fun _ => False) (by simp))
  have HE2 := hide (refEncode_any a c L w2 (HV.out.keep HF2.out) hL)
  have HO2 := hide ho2
  clear ho2 F2 u2 HF1
  go_wp2_with fail
  refine HE2.out.mono ?_
  clear HE2
  rintro e w3 ⟨rfl, F3⟩
  have HF3 := hide ((HF2.out.trans F3).mono (Y := fun _ => False) (by simp))
  have hcv := run_string w3 a2 _ c2 _ (HO2.out.fr F3 (fun _ _ h => h)).bi.bin
  have HC3 := hide (check_any a c L w3 (HV.out.keep HF3.out) (by omega))
  clear F3 HF2 HO2
  go_wp2_with (go_at_call 18; refine HC3.out.mono ?_; rintro e w4 ⟨rfl, F4⟩; have HF4 := hide F4; clear F4)
  go_ret
  exact ⟨by simp, (HF3.out.trans HF4.out).mono (by simp)⟩
end Go.Proofs.Ytnbbgliegfmhpaa
