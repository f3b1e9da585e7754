/- The document's Check and Encode. -/
import Derived.Test.YtnbbgliegfmhpaaU
namespace Go.Proofs.Ytnbbgliegfmhpaa
open Go.RowKit

set_option maxRecDepth 100000 in
set_option maxHeartbeats 4000000 in
theorem refCheck_any (a : Option Addr) (c : Nat) (L : List Val) (w : World) (hv : Vals w a L) (hL : L.length ≤ 140737488355328) :
    Calls Try.prog 29 #[.slice a L.length c] w fun e w' => e = .returned (.int .i64 (checkL L)) ∧ Fr w w' (fun _ => False) := by
  have HV := hide hv
  clear hv
  go_enter Try.func29, Try.ntmps29
  go_wp2
  go_loopw [3] (fun i wr => ∃ k : Nat, k ≤ L.length ∧ i = .int .i64 k ∧ Fr w wr (fun _ => False) ∧ checkL (L.take k) = 0) (fun i _ => L.length - (intOf i).toNat)
  case atStart => exact ⟨0, by omega, rfl, Fr.refl _ _, rfl⟩
  case round =>
    rename World => w7
    obtain ⟨k, hk, rfl, hf, hck⟩ := hrel
    have HF := hide hf
    have HCK := hide hck
    clear hf hck
    by_cases hlt : k < L.length
    · obtain ⟨v, hv⟩ : ∃ v, L[k]? = some v := ⟨_, List.getElem?_eq_getElem hlt⟩
      have HTK := hide (checkL_take L k v hv HCK.out)
      obtain ⟨g, off, rfl, c0, c1, c2⟩ := HV.out.get (HF.out.mono (by simp)) k v hv
      clear hv
      obtain ⟨kd, n, t⟩ := v
      have hsz := size_strOf t
      have hts := toList_strOf t
      simp only at c0 c1 c2
      by_cases hk1 : kd = 1
      · subst hk1
        by_cases ht : t = []
        · subst ht
          have hcv : checkV ⟨1, n, []⟩ = 0 := by simp [checkV]
          have hem : (strOf []).toList.isEmpty = true := by rw [toList_strOf]; rfl
          have HN := hide (HTK.out.1 hcv)
          clear HTK
          go_wp2
          go_roundw
          case rel => exact ⟨k + 1, by omega, by go_num, HF.out.trans1 _, HN.out⟩
          case measure => simp [intOf]; omega
        · have hcv : checkV ⟨1, n, t⟩ = 21 := by simp [checkV, ht]
          have hem : (strOf t).toList.isEmpty = false := by
            rw [toList_strOf]
            cases t with
            | nil => exact absurd rfl ht
            | cons _ _ => rfl
          have hcl : checkL L = checkV ⟨1, n, t⟩ := HTK.out.2 (by rw [hcv]; decide)
          rw [hcv] at hcl
          clear HTK
          go_wp2
          go_ret
          exact ⟨by rw [hcl]; rfl, HF.out.trans1 _⟩
      · by_cases hk2 : kd = 2
        · subst hk2
          by_cases hn : n = 0
          · subst hn
            by_cases ht : t.length > 64
            · have hcv : checkV ⟨2, 0, t⟩ = 2 := by simp [checkV, ht]
              have hcl : checkL L = checkV ⟨2, 0, t⟩ := HTK.out.2 (by rw [hcv]; decide)
              rw [hcv] at hcl
              clear HTK
              go_wp2
              go_ret
              exact ⟨by rw [hcl]; rfl, HF.out.trans1 _⟩
            · have hcv : checkV ⟨2, 0, t⟩ = 0 := by simp [checkV]; omega
              have HN := hide (HTK.out.1 hcv)
              clear HTK
              go_wp2
              go_roundw
              case rel => exact ⟨k + 1, by omega, by go_num, HF.out.trans1 _, HN.out⟩
              case measure => simp [intOf]; omega
          · have hcv : checkV ⟨2, n, t⟩ = 21 := by simp [checkV, hn]
            have hcl : checkL L = checkV ⟨2, n, t⟩ := HTK.out.2 (by rw [hcv]; decide)
            rw [hcv] at hcl
            clear HTK
            go_wp2
            go_ret
            exact ⟨by rw [hcl]; rfl, HF.out.trans1 _⟩
        · have hcv : checkV ⟨kd, n, t⟩ = 21 := by simp [checkV, hk1, hk2]
          have hcl : checkL L = checkV ⟨kd, n, t⟩ := HTK.out.2 (by rw [hcv]; decide)
          rw [hcv] at hcl
          clear HTK
          go_wp2
          go_ret
          exact ⟨by rw [hcl]; rfl, HF.out.trans1 _⟩
    · obtain rfl : k = L.length := by omega
      have h3 := HCK.out
      rw [List.take_length] at h3
      go_wp2
      go_ret
      exact ⟨by rw [h3]; rfl, HF.out⟩
end Go.Proofs.Ytnbbgliegfmhpaa
