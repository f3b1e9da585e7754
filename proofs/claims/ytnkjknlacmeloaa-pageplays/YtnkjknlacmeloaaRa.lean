/- The document's used, Left, Room. -/
import Derived.Test.YtnkjknlacmeloaaPo
namespace Go.Proofs.Ytnkjknlacmeloaa
open Go.RowKit
set_option linter.unusedVariables false

set_option maxRecDepth 100000 in
set_option maxHeartbeats 1000000 in
theorem used_any (w : World) (v : Value) (R : List (List UInt8)) (m : Int) (ho : OwnS w v R) (hfit : FitsP R) : Calls Try.prog 34 #[.agg #[v, .int .i64 m]] w fun e w' => e = .returned (.int .i64 (usedP R)) ∧ Fr w w' (fun _ => False) := by
  obtain ⟨va, vc, rfl, _⟩ := ho.shape
  have FA := Fr.alloc w (.cells #[.slice va R.length vc, .int .i64 m] 28) (fun _ => False)
  have HO := hide (ho.fr FA (fun _ _ h => h))
  have HT := hide (two_of (heap_alloc_new w (.cells #[.slice va R.length vc, .int .i64 m] 28)))
  have HFA := hide FA
  have hcnt := hfit.count
  have hus := hfit.used
  have HFIT := hide hfit
  clear ho FA hfit
  go_enter Try.func34, Try.ntmps34
  go_wp2_with fail
  obtain ⟨W, hW⟩ : ∃ W, W = w.alloc (.cells #[.slice va R.length vc, .int .i64 m] 28) := ⟨_, rfl⟩
  obtain ⟨bx, hbx⟩ : ∃ bx, bx = w.heap.size := ⟨_, rfl⟩
  rw [← hW] at HO HT HFA ⊢
  rw [← hbx] at HT ⊢
  clear hW hbx
  have t0 := HT.out.1
  go_loopw [3, 4] (fun x i wr => ∃ k : Nat, k ≤ R.length ∧ i = .int .i64 k ∧ x = .int .i64 (usedP (R.take k) : Int) ∧ wr = W) (fun _ i _ => R.length - (intOf i).toNat)
  case atStart => exact ⟨0, by omega, rfl, by simp [usedP, recsB], rfl⟩
  case round =>
    obtain ⟨k, hk, rfl, rfl, rfl⟩ := hrel
    have hle := usedP_take_le R k
    by_cases hlt : k < R.length
    · obtain ⟨r, hr⟩ : ∃ r, R[k]? = some r := ⟨_, List.getElem?_eq_getElem hlt⟩
      obtain ⟨gk, rfl, hck⟩ := HO.out.at k r hr
      have HS := hide (usedP_take R k r hr)
      have hrl := HFIT.out.each r (List.mem_of_getElem? hr)
      have hrs := size_strOf r
      clear hr
      go_wp2
      go_roundw
      case rel => exact ⟨k + 1, by omega, by go_num, by rw [HS.out]; go_num, trivial⟩
      case measure => simp [intOf]; omega
    · obtain rfl : k = R.length := by omega
      go_wp2
      go_ret
      exact ⟨by rw [List.take_length]; rfl, HFA.out⟩

set_option maxHeartbeats 1000000 in
theorem rleft_any (w : World) (v : Value) (R : List (List UInt8)) (m : Int) (ho : OwnS w v R) (hfit : FitsP R) : Calls Try.prog 18 #[.agg #[v, .int .i64 m]] w fun e w' => e = .returned (.int .i64 (256 - (usedP R : Int))) ∧ Fr w w' (fun _ => False) := by
  obtain ⟨va, vc, rfl, _⟩ := ho.shape
  have FA := Fr.alloc w (.cells #[.slice va R.length vc, .int .i64 m] 28) (fun _ => False)
  have HO := hide (ho.fr FA (fun _ _ h => h))
  have HFA := hide FA
  have hus := hfit.used
  clear ho FA
  go_enter Try.func18, Try.ntmps18
  go_wp2_with (go_at_call 34; refine (used_any _ _ R m HO.out hfit).mono ?_; rintro e V ⟨rfl, f⟩; have HF := hide f; clear f)
  go_ret
  exact ⟨rfl, (HFA.out.trans HF.out).mono (by simp)⟩

set_option maxHeartbeats 1000000 in
theorem rroom_any (w : World) (v : Value) (R : List (List UInt8)) (m : Int) (ho : OwnS w v R) (hfit : FitsP R) : Calls Try.prog 16 #[.agg #[v, .int .i64 m]] w fun e w' => e = .returned (.int .i64 (roomP R)) ∧ Fr w w' (fun _ => False) := by
  obtain ⟨va, vc, rfl, _⟩ := ho.shape
  have FA := Fr.alloc w (.cells #[.slice va R.length vc, .int .i64 m] 28) (fun _ => False)
  have HO := hide (ho.fr FA (fun _ _ h => h))
  have HFA := hide FA
  have hus := hfit.used
  have key : ∀ x : Int, roomP R = x → (256 - (usedP R : Int) - 1 < 0 ∧ x = 0) ∨ (0 ≤ 256 - (usedP R : Int) - 1 ∧ 256 - (usedP R : Int) - 1 ≤ 200 ∧ x = 256 - (usedP R : Int) - 1) ∨ (200 < 256 - (usedP R : Int) - 1 ∧ x = 200) := by unfold roomP; omega
  obtain ⟨x, hx⟩ : ∃ x, roomP R = x := ⟨_, rfl⟩
  have key := key x hx
  rw [hx]
  clear ho FA hx
  rcases key with ⟨h1, rfl⟩ | ⟨h1, h2, rfl⟩ | ⟨h1, rfl⟩
  all_goals
    go_enter Try.func16, Try.ntmps16
    go_wp2_with (go_at_call 34; refine (used_any _ _ R m HO.out hfit).mono ?_; rintro e V ⟨rfl, f⟩; have HF := hide f; clear f)
    go_ret
    exact ⟨rfl, (HFA.out.trans HF.out).mono (by simp)⟩
end Go.Proofs.Ytnkjknlacmeloaa
