/- The walk of sign. -/
import Derived.Test.YtackfnojafinpaaDoorD
namespace Go.Proofs.YtackfnojafinpaaDoor
open Go.RowKit
set_option linter.unusedVariables false

theorem sign_some (l : List UInt8) (k : Nat) (hk : k < 14) (hn : ∀ j, j < k → Lib.hasPrefix l (signs.getD j []) = false) (hy : Lib.hasPrefix l (signs.getD k []) = true) : signR l = some ⟨4, signs.getD k [], 0, (signs.getD k []).length⟩ := by
  have hl : signs.length = 14 := rfl
  have e : signs.find? (fun p => Lib.hasPrefix l p) = some (signs.getD k []) := by
    rw [List.find?_eq_some_iff_getElem]
    refine ⟨hy, k, by omega, ?_, fun j hj => ?_⟩
    · rw [List.getD_eq_getElem?_getD, List.getElem?_eq_getElem (by omega)]; rfl
    · have := hn j hj
      rw [List.getD_eq_getElem?_getD, List.getElem?_eq_getElem (by omega)] at this
      simpa using this
  unfold signR
  rw [e]
  rfl
theorem sign_none (l : List UInt8) (hn : ∀ j, j < 14 → Lib.hasPrefix l (signs.getD j []) = false) : signR l = none := by
  have hl : signs.length = 14 := rfl
  unfold signR
  rw [List.find?_eq_none.2 ?_]
  · rfl
  · intro x hx
    obtain ⟨j, hj, rfl⟩ := List.mem_iff_getElem.1 hx
    have := hn j (by omega)
    rw [List.getD_eq_getElem?_getD, List.getElem?_eq_getElem hj] at this
    simpa using this
theorem index63 (k : Nat) (hk : k < 14) (W : World) : (Instr.index 63 (.agg #[.string ⟨#[60, 62]⟩, .string ⟨#[60, 61]⟩, .string ⟨#[62, 61]⟩, .string ⟨#[40]⟩, .string ⟨#[41]⟩, .string ⟨#[44]⟩, .string ⟨#[59]⟩, .string ⟨#[46]⟩, .string ⟨#[61]⟩, .string ⟨#[60]⟩, .string ⟨#[62]⟩, .string ⟨#[43]⟩, .string ⟨#[45]⟩, .string ⟨#[42]⟩]) (.int .i64 (k : Int))).run Tryd.prog W = .ok (.string (strOf (signs.getD k []))) W := by
  obtain rfl | rfl | rfl | rfl | rfl | rfl | rfl | rfl | rfl | rfl | rfl | rfl | rfl | rfl : k = 0 ∨ k = 1 ∨ k = 2 ∨ k = 3 ∨ k = 4 ∨ k = 5 ∨ k = 6 ∨ k = 7 ∨ k = 8 ∨ k = 9 ∨ k = 10 ∨ k = 11 ∨ k = 12 ∨ k = 13 := by omega
  all_goals kernel_rfl
theorem extract_rest (s : ByteArray) (m : Nat) : (s.extract m s.size).data.toList = s.data.toList.drop m := by
  rw [extract_toList, List.take_of_length_le]
  have e : s.data.toList.length = s.size := rfl
  rw [List.length_drop]; omega
theorem signs_len (k : Nat) : (signs.getD k []).length ≤ 2 := by
  match k with
  | 0 => decide
  | 1 => decide
  | 2 => decide
  | 3 => decide
  | 4 => decide
  | 5 => decide
  | 6 => decide
  | 7 => decide
  | 8 => decide
  | 9 => decide
  | 10 => decide
  | 11 => decide
  | 12 => decide
  | 13 => decide
  | k + 14 => simp [signs]
/-- What sign answers. -/
def SignPost (l : List UInt8) (m : Nat) (e : Ending) : Prop := match signR l with
  | some x => e = .returned (.tuple #[.agg #[.int .i64 4, .string (strOf x.text), .int .i64 0, .int .i64 m], .int .i64 (m + x.len : Nat)])
  | none => ∃ t : Tok, e = .returned (.tuple #[tokV t, .int .i64 m])
set_option maxHeartbeats 2000000 in
theorem sign_any (s : ByteArray) (m : Nat) (w : World) (hs : s.size ≤ 4096) (hm : m < s.size) :
    Calls Tryd.prog 17 #[.string s, .int .i64 m] w fun e w' => SignPost (s.data.toList.drop m) m e ∧ Fr w w' (fun _ => False) := by
  have HA := hide (Fr.alloc w (.cells #[.int .i64 0, .string ⟨#[]⟩, .int .i64 0, .int .i64 0] 36) (fun _ => False))
  go_enter Tryd.func17, Tryd.ntmps17
  go_wp2
  go_loop [9] (fun i => ∃ k : Nat, k ≤ 14 ∧ i = .int .i64 k ∧ ∀ j, j < k → Lib.hasPrefix (s.data.toList.drop m) (signs.getD j []) = false) (fun i => 14 - (intOf i).toNat)
  case atStart => exact ⟨0, by omega, rfl, fun j hj => by omega⟩
  case round =>
    obtain ⟨k, hk, rfl, hno⟩ := hrel
    have HN := hide hno
    clear hno
    by_cases hlt : k < 14
    · have hx := fun W => index63 k hlt W
      have hh := fun W => Tryd.strings_HasPrefix (s.extract m s.size) (strOf (signs.getD k [])) W
      rw [extract_rest, strOf_toList] at hh
      have hsz : (strOf (signs.getD k [])).size ≤ 2 := by rw [strOf_size]; exact signs_len k
      have HSZ := hide (strOf_size (signs.getD k []))
      have HST := hide (show strOf (signs.getD k []) = strOf (signs.getD k []) from rfl)
      cases hp : Lib.hasPrefix (s.data.toList.drop m) (signs.getD k []) with
      | true =>
        have HR := hide (sign_some _ k hlt HN.out hp)
        rw [hp] at hh
        clear hp
        generalize hq : strOf (signs.getD k []) = q at *
        have HQ := hide hq
        clear hq
        go_wp2_with (go_at_call 29; refine (hh _).mono ?_; rintro e w' ⟨rfl, rfl⟩)
        refine bodyPost_ret (v := .tuple #[.agg #[.int .i64 4, .string q, .int .i64 0, .int .i64 m], .int .i64 (m + q.size : Nat)]) (by simp [results, Tryd.results17, go_sem]) rfl ⟨?_, Fr.alloc _ _ _⟩
        unfold SignPost
        rw [HR.out]
        simp only
        rw [HQ.out, HSZ.out]
      | false =>
        have HR := hide (show ∀ j, j < k + 1 → Lib.hasPrefix (s.data.toList.drop m) (signs.getD j []) = false from fun j hj => by
          by_cases e : j = k
          · rw [e]; exact hp
          · exact HN.out j (by omega))
        rw [hp] at hh
        clear hp
        generalize strOf (signs.getD k []) = q at *
        go_wp2_with (go_at_call 29; refine (hh _).mono ?_; rintro e w' ⟨rfl, rfl⟩)
        go_round
        case rel => exact ⟨k + 1, by omega, by go_num, HR.out⟩
        case measure => simp [intOf]; omega
    · have HR := hide (sign_none _ (fun j hj => HN.out j (by omega)))
      go_wp2
      refine bodyPost_ret (v := .tuple #[tokV ⟨0, [], 0, 0⟩, .int .i64 m]) (by simp [results, Tryd.results17, go_sem, tokV, strOf]) rfl ⟨?_, Fr.alloc _ _ _⟩
      unfold SignPost
      rw [HR.out]
      exact ⟨_, rfl⟩
end Go.Proofs.YtackfnojafinpaaDoor
