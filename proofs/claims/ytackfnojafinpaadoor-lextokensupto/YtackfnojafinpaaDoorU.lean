/- The document's signs. -/
import Derived.Test.YtackfnojafinpaaDoorT
namespace Go.Proofs.YtackfnojafinpaaDoor
open Go.RowKit
set_option linter.unusedVariables false

def singles : List UInt8 := [40, 41, 44, 59, 46, 61, 60, 62, 43, 45, 42]
/-- No sign of two bytes begins here. -/
def NoTwo (b : UInt8) (r : List UInt8) : Prop := ∀ c q, r = c :: q → ¬ (b = 60 ∧ c = 62) ∧ ¬ (b = 60 ∧ c = 61) ∧ ¬ (b = 62 ∧ c = 61)
theorem sign_pair (a c : UInt8) (r : List UInt8) (h : (a = 60 ∧ c = 62) ∨ (a = 60 ∧ c = 61) ∨ (a = 62 ∧ c = 61)) : signR (a :: c :: r) = some ⟨4, [a, c], 0, 2⟩ := by
  rcases h with ⟨rfl, rfl⟩ | ⟨rfl, rfl⟩ | ⟨rfl, rfl⟩ <;> simp [signR, signs, Lib.hasPrefix, List.isPrefixOf]
theorem sign_single (b : UInt8) (r : List UInt8) (hb : b ∈ singles) (hn : NoTwo b r) : signR (b :: r) = some ⟨4, [b], 0, 1⟩ := by
  cases r with
  | nil =>
    simp only [singles, List.mem_cons, List.not_mem_nil, or_false] at hb
    rcases hb with rfl | rfl | rfl | rfl | rfl | rfl | rfl | rfl | rfl | rfl | rfl <;> simp [signR, signs, Lib.hasPrefix, List.isPrefixOf]
  | cons c q =>
    obtain ⟨h1, h2, h3⟩ := hn c q rfl
    simp only [singles, List.mem_cons, List.not_mem_nil, or_false] at hb
    have e1 : ((62 : UInt8) == c) = decide (c = 62) := by rw [Bool.eq_iff_iff]; simp; exact ⟨fun h => h.symm, fun h => h.symm⟩
    have e2 : ((61 : UInt8) == c) = decide (c = 61) := by rw [Bool.eq_iff_iff]; simp; exact ⟨fun h => h.symm, fun h => h.symm⟩
    rcases hb with rfl | rfl | rfl | rfl | rfl | rfl | rfl | rfl | rfl | rfl | rfl <;> simp at h1 h2 h3 <;> first | (simp [signR, signs, Lib.hasPrefix, List.isPrefixOf]; done) | (simp [signR, signs, Lib.hasPrefix, List.isPrefixOf, e1, h1]; done) | (simp [signR, signs, Lib.hasPrefix, List.isPrefixOf, e1, e2, h1, h2]; done) | (simp [signR, signs, Lib.hasPrefix, List.isPrefixOf, e2, h3]; done)
theorem sign_nothing (b : UInt8) (r : List UInt8) (hb : b ∉ singles) : signR (b :: r) = none := by
  unfold signR
  rw [List.find?_eq_none.2 ?_]
  · rfl
  · intro p hp
    simp only [singles, List.mem_cons, List.not_mem_nil, or_false, not_or] at hb
    simp only [signs, List.mem_cons, List.not_mem_nil, or_false] at hp
    obtain ⟨b1, b2, b3, b4, b5, b6, b7, b8, b9, b10, b11⟩ := hb
    rcases hp with rfl | rfl | rfl | rfl | rfl | rfl | rfl | rfl | rfl | rfl | rfl | rfl | rfl | rfl <;>
      (simp only [Lib.hasPrefix, List.isPrefixOf, Bool.and_eq_true, beq_iff_eq, not_and]; intro h; exact absurd h.symm (by assumption))
def sigN (k : Nat) : Int := ((singles.getD k 0).toNat : Int)
theorem index65 (k : Nat) (hk : k < 11) (W : World) : (Instr.index 65 (.agg #[.int .u8 40, .int .u8 41, .int .u8 44, .int .u8 59, .int .u8 46, .int .u8 61, .int .u8 60, .int .u8 62, .int .u8 43, .int .u8 45, .int .u8 42]) (.int .i64 (k : Int))).run Tryd.prog W = .ok (.int .u8 (sigN k)) W := by
  obtain rfl | rfl | rfl | rfl | rfl | rfl | rfl | rfl | rfl | rfl | rfl : k = 0 ∨ k = 1 ∨ k = 2 ∨ k = 3 ∨ k = 4 ∨ k = 5 ∨ k = 6 ∨ k = 7 ∨ k = 8 ∨ k = 9 ∨ k = 10 := by omega
  all_goals kernel_rfl
theorem extract_two (s : ByteArray) (m : Nat) (h : m + 1 < s.size) : s.extract m (m + 2) = strOf [s[m], s[m + 1]] := by
  apply ByteArray.ext
  apply Array.toList_inj.1
  rw [extract_toList, drop_byte s m (by omega), drop_byte s (m + 1) h]
  simp [strOf]
set_option maxRecDepth 100000 in
set_option maxHeartbeats 2000000 in
theorem one_sign (s : ByteArray) (m : Nat) (w : World) (hs : s.size ≤ 4096) (hm : m < s.size) (hl : letB s[m] = false) (hd : digB s[m] = false) (hq : s[m] ≠ 39) :
    Calls Tryd.prog 20 #[.string s, .int .i64 m] w fun e w' => OnePost (signR (s.data.toList.drop m)) m e ∧ Fr w w' (fun _ => False) := by
  have hc := rlet_any s[m]
  have hc2 := rdig_any s[m]
  rw [hl] at hc
  rw [hd] at hc2
  have hqi : ¬ ((s[m].toNat : Int) = 39) := fun h => hq (UInt8.toNat_inj.1 (by simp; omega))
  clear hl hd hq
  have hq0 : ((s[m].toNat : Int) == 39) = false := by simpa using hqi
  have HDR := hide (drop_byte s m hm)
  by_cases h2 : m + 1 < s.size
  · have HX := hide (extract_two s m h2)
    have HTL := hide (show (s.extract m (m + 2)).toList = [s[m], s[m + 1]] by rw [HX.out, str_toList])
    have h2i : (m : Int) + 1 < s.size := by omega
    by_cases t1 : (s.extract m (m + 2)).toList = [60, 62]
    · have hp : s[m] = 60 ∧ s[m + 1] = 62 := by
        have h := HTL.out.symm.trans t1
        simpa using h
      have HS := hide (show signR (s.data.toList.drop m) = some ⟨4, [s[m], s[m + 1]], 0, 2⟩ by rw [drop_byte s m hm, drop_byte s (m + 1) h2]; exact sign_pair _ _ _ (by simp [hp]))
      clear hp
      go_enter Tryd.func20, Tryd.ntmps20
      go_wp2_with (first | (go_at_call 32; refine (hc _).mono ?_; rintro e w' ⟨rfl, rfl⟩) | (go_at_call 33; refine (hc2 _).mono ?_; rintro e w' ⟨rfl, rfl⟩))
      refine bodyPost_ret (v := .tuple #[.agg #[.int .i64 4, .string (s.extract m (m + 2)), .int .i64 0, .int .i64 m], .int .i64 (m + 2 : Nat), .bool true]) (by simp [results, Tryd.results20, go_sem]) rfl ⟨?_, Fr.alloc _ _ _⟩
      unfold OnePost
      rw [HS.out, HX.out]
      rfl
    · by_cases t2 : (s.extract m (m + 2)).toList = [60, 61]
      · have hp : s[m] = 60 ∧ s[m + 1] = 61 := by
          have h := HTL.out.symm.trans t2
          simpa using h
        have HS := hide (show signR (s.data.toList.drop m) = some ⟨4, [s[m], s[m + 1]], 0, 2⟩ by rw [drop_byte s m hm, drop_byte s (m + 1) h2]; exact sign_pair _ _ _ (by simp [hp]))
        clear hp
        go_enter Tryd.func20, Tryd.ntmps20
        go_wp2_with (first | (go_at_call 32; refine (hc _).mono ?_; rintro e w' ⟨rfl, rfl⟩) | (go_at_call 33; refine (hc2 _).mono ?_; rintro e w' ⟨rfl, rfl⟩))
        refine bodyPost_ret (v := .tuple #[.agg #[.int .i64 4, .string (s.extract m (m + 2)), .int .i64 0, .int .i64 m], .int .i64 (m + 2 : Nat), .bool true]) (by simp [results, Tryd.results20, go_sem]) rfl ⟨?_, Fr.alloc _ _ _⟩
        unfold OnePost
        rw [HS.out, HX.out]
        rfl
      · by_cases t3 : (s.extract m (m + 2)).toList = [62, 61]
        · have hp : s[m] = 62 ∧ s[m + 1] = 61 := by
            have h := HTL.out.symm.trans t3
            simpa using h
          have HS := hide (show signR (s.data.toList.drop m) = some ⟨4, [s[m], s[m + 1]], 0, 2⟩ by rw [drop_byte s m hm, drop_byte s (m + 1) h2]; exact sign_pair _ _ _ (by simp [hp]))
          clear hp
          go_enter Tryd.func20, Tryd.ntmps20
          go_wp2_with (first | (go_at_call 32; refine (hc _).mono ?_; rintro e w' ⟨rfl, rfl⟩) | (go_at_call 33; refine (hc2 _).mono ?_; rintro e w' ⟨rfl, rfl⟩))
          refine bodyPost_ret (v := .tuple #[.agg #[.int .i64 4, .string (s.extract m (m + 2)), .int .i64 0, .int .i64 m], .int .i64 (m + 2 : Nat), .bool true]) (by simp [results, Tryd.results20, go_sem]) rfl ⟨?_, Fr.alloc _ _ _⟩
          unfold OnePost
          rw [HS.out, HX.out]
          rfl
        · have t1b : ((s.extract m (m + 2)).toList == [60, 62]) = false := by simpa using t1
          have t2b : ((s.extract m (m + 2)).toList == [60, 61]) = false := by simpa using t2
          have t3b : ((s.extract m (m + 2)).toList == [62, 61]) = false := by simpa using t3
          have HNT := hide (show NoTwo s[m] (s.data.toList.drop (m + 1)) by
            intro c q hcq
            rw [drop_byte s (m + 1) h2] at hcq
            obtain ⟨rfl, _⟩ := List.cons.inj hcq
            rw [HTL.out] at t1 t2 t3
            refine ⟨fun h => t1 (by rw [h.1, h.2]), fun h => t2 (by rw [h.1, h.2]), fun h => t3 (by rw [h.1, h.2])⟩)
          go_enter Tryd.func20, Tryd.ntmps20
          go_wp2_with (first | (go_at_call 32; refine (hc _).mono ?_; rintro e w' ⟨rfl, rfl⟩) | (go_at_call 33; refine (hc2 _).mono ?_; rintro e w' ⟨rfl, rfl⟩))
          go_loop [172] (fun i => ∃ k : Nat, k ≤ 11 ∧ i = .int .i64 k ∧ ∀ j, j < k → s[m] ≠ singles.getD j 0) (fun i => 11 - (intOf i).toNat)
          case atStart => exact ⟨0, by omega, rfl, fun j hj => by omega⟩
          case round =>
            obtain ⟨k, hk, rfl, hno⟩ := hrel
            have HNO := hide hno
            clear hno
            by_cases hlt : k < 11
            · have hix := fun W => index65 k hlt W
              by_cases hy : s[m] = singles.getD k 0
              · have hqe : ((s[m].toNat : Int) == sigN k) = true := by unfold sigN; rw [hy]; simp
                have HM := hide (show s[m] ∈ singles by
                  rw [hy, List.getD_eq_getElem?_getD, List.getElem?_eq_getElem (show k < singles.length from hlt)]
                  exact List.getElem_mem _)
                have HX1 := hide (extract_one s m hm)
                clear hy
                go_wp2
                refine bodyPost_ret (v := .tuple #[.agg #[.int .i64 4, .string (s.extract m (m + 1)), .int .i64 0, .int .i64 m], .int .i64 (m + 1 : Nat), .bool true]) (by simp [results, Tryd.results20, go_sem]) rfl ⟨?_, Fr.alloc _ _ _⟩
                unfold OnePost
                rw [HDR.out, sign_single _ _ HM.out HNT.out, HX1.out]
                rfl
              · have hqe : ((s[m].toNat : Int) == sigN k) = false := by
                  unfold sigN
                  simp only [beq_eq_false_iff_ne, ne_eq]
                  intro h
                  exact hy (UInt8.toNat_inj.1 (by omega))
                have HN2 := hide (show ∀ j, j < k + 1 → s[m] ≠ singles.getD j 0 from fun j hj => by
                  by_cases e : j = k
                  · rw [e]; exact hy
                  · exact HNO.out j (by omega))
                clear hy
                go_wp2
                exact ⟨⟨k + 1, by omega, by go_num, HN2.out⟩, by simp [intOf]; omega⟩
            · have HM := hide (show s[m] ∉ singles by
                intro h
                obtain ⟨j, hj, e⟩ := List.mem_iff_getElem.1 h
                have hj2 : j < 11 := hj
                refine HNO.out j (by omega) ?_
                rw [List.getD_eq_getElem?_getD, List.getElem?_eq_getElem hj]
                exact e.symm)
              go_wp2
              refine bodyPost_ret (v := .tuple #[tokV ⟨0, [], 0, 0⟩, .int .i64 0, .bool false]) (by simp [results, Tryd.results20, go_sem, tokV, strOf]) rfl ⟨?_, Fr.alloc _ _ _⟩
              unfold OnePost
              rw [HDR.out, sign_nothing _ _ HM.out]
              exact ⟨_, _, rfl⟩
  · have HNT := hide (show NoTwo s[m] (s.data.toList.drop (m + 1)) by
      intro c q hcq
      rw [drop_end s (m + 1) (by omega)] at hcq
      cases hcq)
    have h2i : ¬ (m : Int) + 1 < s.size := by omega
    go_enter Tryd.func20, Tryd.ntmps20
    go_wp2_with (first | (go_at_call 32; refine (hc _).mono ?_; rintro e w' ⟨rfl, rfl⟩) | (go_at_call 33; refine (hc2 _).mono ?_; rintro e w' ⟨rfl, rfl⟩))
    go_loop [172] (fun i => ∃ k : Nat, k ≤ 11 ∧ i = .int .i64 k ∧ ∀ j, j < k → s[m] ≠ singles.getD j 0) (fun i => 11 - (intOf i).toNat)
    case atStart => exact ⟨0, by omega, rfl, fun j hj => by omega⟩
    case round =>
      obtain ⟨k, hk, rfl, hno⟩ := hrel
      have HNO := hide hno
      clear hno
      by_cases hlt : k < 11
      · have hix := fun W => index65 k hlt W
        by_cases hy : s[m] = singles.getD k 0
        · have hqe : ((s[m].toNat : Int) == sigN k) = true := by unfold sigN; rw [hy]; simp
          have HM := hide (show s[m] ∈ singles by
            rw [hy, List.getD_eq_getElem?_getD, List.getElem?_eq_getElem (show k < singles.length from hlt)]
            exact List.getElem_mem _)
          have HX1 := hide (extract_one s m hm)
          clear hy
          go_wp2
          refine bodyPost_ret (v := .tuple #[.agg #[.int .i64 4, .string (s.extract m (m + 1)), .int .i64 0, .int .i64 m], .int .i64 (m + 1 : Nat), .bool true]) (by simp [results, Tryd.results20, go_sem]) rfl ⟨?_, Fr.alloc _ _ _⟩
          unfold OnePost
          rw [HDR.out, sign_single _ _ HM.out HNT.out, HX1.out]
          rfl
        · have hqe : ((s[m].toNat : Int) == sigN k) = false := by
            unfold sigN
            simp only [beq_eq_false_iff_ne, ne_eq]
            intro h
            exact hy (UInt8.toNat_inj.1 (by omega))
          have HN2 := hide (show ∀ j, j < k + 1 → s[m] ≠ singles.getD j 0 from fun j hj => by
            by_cases e : j = k
            · rw [e]; exact hy
            · exact HNO.out j (by omega))
          clear hy
          go_wp2
          exact ⟨⟨k + 1, by omega, by go_num, HN2.out⟩, by simp [intOf]; omega⟩
      · have HM := hide (show s[m] ∉ singles by
          intro h
          obtain ⟨j, hj, e⟩ := List.mem_iff_getElem.1 h
          have hj2 : j < 11 := hj
          refine HNO.out j (by omega) ?_
          rw [List.getD_eq_getElem?_getD, List.getElem?_eq_getElem hj]
          exact e.symm)
        go_wp2
        refine bodyPost_ret (v := .tuple #[tokV ⟨0, [], 0, 0⟩, .int .i64 0, .bool false]) (by simp [results, Tryd.results20, go_sem, tokV, strOf]) rfl ⟨?_, Fr.alloc _ _ _⟩
        unfold OnePost
        rw [HDR.out, sign_nothing _ _ HM.out]
        exact ⟨_, _, rfl⟩
end Go.Proofs.YtackfnojafinpaaDoor
