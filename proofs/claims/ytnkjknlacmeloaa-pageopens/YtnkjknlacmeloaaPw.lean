/- Raw bytes are a page, or refused: the walk of PageOpens. -/
import Derived.Test.YtnkjknlacmeloaaPo
namespace Go.Proofs.Ytnkjknlacmeloaa
open Go.RowKit
set_option linter.unusedVariables false

theorem openP_code (l : List UInt8) (c : Nat) (he : openP l = .error c) : c = 10 ∨ c = 30 ∨ c = 31 := by
  by_cases h : l.length = 256
  · exact .inr (openP_err l h c he)
  · rw [openP_long l h] at he; injection he with he; exact .inl he.symm
theorem openP_256 (l : List UInt8) (x : List (List UInt8) × Int) (he : openP l = .ok x) : l.length = 256 := by
  by_cases h : l.length = 256
  · exact h
  · rw [openP_long l h] at he; cases he

set_option maxRecDepth 100000 in
set_option maxHeartbeats 4000000 in
theorem opens_walk (a : Option Addr) (n c : Nat) (l : List UInt8) (w : World) (hb : BI w a n l) (hn : n ≤ 140737488351232) (hnc : n ≤ c) :
    Calls Try.prog 4 #[.slice a n c] w fun e w' => e = .returned (.bool true) ∧ Fr w w' (fun _ => False) := by
  have HB := hide hb
  have HLN := hide hb.1
  clear hb
  go_enter Try.func4, Try.ntmps4
  go_wp2_with fail
  refine (awake_any w).mono ?_
  rintro e w1 ⟨rfl, F1⟩
  have HF1 := hide F1
  clear F1
  go_wp2_with fail
  refine (open_any w1 a n c l (HB.out.fr HF1.out (fun _ _ _ _ h => h)) (by omega) hnc).mono ?_
  rintro e V2 ⟨ho2, F2⟩
  have HF2 := hide ((HF1.out.trans F2).mono (Y := fun _ => False) (by simp))
  have hcv := run_string V2 a n c l (HB.out.fr HF2.out (fun _ _ _ _ h => h)).bin
  cases hop : openP l with
  | error cd =>
    rw [hop] at ho2
    have ho2 : e = .returned (.tuple #[.pointer none, .int .i64 cd]) := ho2
    subst ho2
    have hcd := openP_code l cd hop
    have HOP := hide hop
    clear hop F2 HF1
    go_wp2_with fail
    refine (ropen_any V2 l (by rw [HLN.out]; exact hn)).mono ?_
    rintro e V3 ⟨ho3, F3⟩
    rw [HOP.out] at ho3
    have ho3 : e = .returned (.tuple #[.agg #[.slice none 0 0, .int .i64 0], .int .i64 cd]) := ho3
    subst ho3
    have HF3 := hide ((HF2.out.trans F3).mono (Y := fun _ => False) (by simp))
    have HF4 := hide ((HF3.out.trans (Fr.alloc V3 (.cells #[.slice none 0 0, .int .i64 0] 28) (fun _ => False))).mono (Y := fun _ => False) (by simp))
    clear F3 hcv
    rcases hcd with rfl | rfl | rfl
    · go_wp2
      go_ret
      exact ⟨rfl, HF4.out⟩
    · go_wp2
      go_ret
      exact ⟨rfl, HF4.out⟩
    · go_wp2
      go_ret
      exact ⟨rfl, HF4.out⟩
  | ok x =>
    obtain ⟨R, m⟩ := x
    rw [hop] at ho2
    obtain ⟨b, rfl, hp2⟩ := ho2
    have HL := hide (openP_256 l _ hop)
    have HBO := hide (bytes_open hop).1
    have HP2 := hide hp2
    have HOP := hide hop
    have hcnt := hp2.fits.count
    clear hop F2 HF1 hp2
    go_wp2_with fail
    refine (ropen_any V2 l (by rw [HLN.out]; exact hn)).mono ?_
    rintro e V3 ⟨ho3, F3⟩
    rw [HOP.out] at ho3
    obtain ⟨v, rfl, hov⟩ := ho3
    obtain ⟨va, vc, rfl, _⟩ := hov.shape
    have FA := Fr.alloc V3 (.cells #[.slice va R.length vc, .int .i64 m] 28) (fun _ => False)
    have HT4 := hide (two_of (heap_alloc_new V3 (.cells #[.slice va R.length vc, .int .i64 m] 28)))
    have HO4 := hide (hov.fr FA (fun _ _ h => h))
    have HP4 := hide ((HP2.out.keep F3).keep FA)
    have HF4 := hide (((HF2.out.trans F3).trans FA).mono (Y := fun _ => False) (by simp))
    clear FA F3 hov hcv
    go_wp2_with fail
    obtain ⟨bW, hbW⟩ : ∃ bW, bW = V3.heap.size := ⟨_, rfl⟩
    obtain ⟨W4, hW4⟩ : ∃ W4, W4 = V3.alloc (.cells #[.slice va R.length vc, .int .i64 m] 28) := ⟨_, rfl⟩
    rw [← hW4] at HT4 HO4 HP4 HF4 ⊢
    rw [← hbW] at HT4 ⊢
    clear hbW hW4
    go_loopw [39] (fun i wr => ∃ k2 : Nat, k2 ≤ R.length ∧ i = .int .i64 k2 ∧ Fr W4 wr (fun _ => False)) (fun i _ => R.length - (intOf i).toNat)
    case atStart => exact ⟨0, by omega, rfl, Fr.refl _ _⟩
    case round =>
      rename World => W9
      obtain ⟨k2, hk2, rfl, hf8⟩ := hrel
      have HF8 := hide hf8
      have HP9 := hide (HP4.out.keep hf8)
      have hSx : ∀ V, Fr W9 V (fun _ => False) → V.cell? ⟨bW, 0, none⟩ = some (.slice va R.length vc) ∧ V.cell? ⟨bW, 1, none⟩ = some (.int .i64 m) ∧ BI V a n l := by
        intro V hV
        have FF := (HF8.out.trans hV).mono (Y := fun _ => False) (by simp)
        exact ⟨(HT4.out.fr FF (fun h => h)).1, (HT4.out.fr FF (fun h => h)).2.1, HB.out.fr ((HF4.out.trans FF).mono (Y := fun _ => False) (by simp)) (fun _ _ _ _ h => h)⟩
      have HSX := hide hSx
      clear hf8 hSx
      by_cases hlt2 : k2 < R.length
      · obtain ⟨r, hr⟩ : ∃ r, R[k2]? = some r := ⟨_, List.getElem?_eq_getElem hlt2⟩
        obtain ⟨gk, rfl, hck⟩ := (HO4.out.fr HF8.out (fun _ _ h => h)).at k2 r hr
        have HRR := hide hr
        have hrl := HP9.out.fits.each r (List.mem_of_getElem? hr)
        clear hr
        go_wp2_with fail
        refine (getYes HP9.out k2 k2 r rfl HRR.out).mono ?_
        rintro e W10 ⟨rfl, hg9, F9, hs9⟩
        have hcv9 := run_string W10 (some ⟨W9.heap.size, 0, none⟩) r.length r.length r (BI.recd hg9).bin
        have HF9 := hide ((HF8.out.trans F9).mono (Y := fun _ => False) (by simp))
        unfold recV
        clear hg9 F9 hs9
        go_wp2
        go_roundw
        case rel => exact ⟨k2 + 1, by omega, by go_num, HF9.out⟩
        case measure => simp [intOf]; omega
      · go_wp2_with fail
        have hSx := HSX.out
        have hS := hSx _ (Fr.drew W9 (fun _ => False))
        refine wp_region_K (fun _ => true) (fun V => V.cell? ⟨bW, 0, none⟩ = some (.slice va R.length vc) ∧ V.cell? ⟨bW, 1, none⟩ = some (.int .i64 m) ∧ BI V a n l) (by kernel_rfl) ?_
        refine wpAnyK_takeTo 0 (some 59) (.pointer (some ⟨b, 0, none⟩)) [] rfl rfl (by kernel_rfl) (by kernel_rfl) (by kernel_rfl) (by kernel_rfl) (fun _ _ _ h => h) hS (Or.inl ⟨rfl, fun w1 hw1 => by go_simp⟩) ?_
        simp only [Act.put, List.setIfInBounds_toArray, List.set_cons_zero, List.set_cons_succ]
        refine wpAnyK_takeTo 2 (some 61) (.pointer (some ⟨bW, 0, none⟩)) [] rfl rfl (by kernel_rfl) (by kernel_rfl) (by kernel_rfl) (by kernel_rfl) (fun _ _ _ h => h) hS (Or.inl ⟨rfl, fun w1 hw1 => by go_simp⟩) ?_
        simp only [Act.put, List.setIfInBounds_toArray, List.set_cons_zero, List.set_cons_succ]
        refine wpAnyK_takeTo 3 (some 62) (.slice va R.length vc) [] rfl rfl (by kernel_rfl) (by kernel_rfl) (by kernel_rfl) (by kernel_rfl) (fun _ _ _ h => h) hS (Or.inl ⟨rfl, fun w1 hw1 => by have g0 := hw1.1; go_simp⟩) ?_
        simp only [Act.put, List.setIfInBounds_toArray, List.set_cons_zero, List.set_cons_succ]
        refine wpAnyK_takeTo 4 (some 63) (.int .i64 (R.length : Int)) [] rfl rfl (by kernel_rfl) (by kernel_rfl) (by kernel_rfl) (by kernel_rfl) (fun _ _ _ h => h) hS (Or.inl ⟨rfl, fun w1 hw1 => by go_simp⟩) ?_
        simp only [Act.put, List.setIfInBounds_toArray, List.set_cons_zero, List.set_cons_succ]
        refine wpAnyK_one (i := 1) (by kernel_rfl) rfl rfl ?_
        refine wp_call_to (some 60) rfl 14 #[.pointer (some ⟨b, 0, none⟩)] (by go_simp) (countIn (HP9.out.keep (Fr.drew W9 (fun _ => False)))) ?_
        rintro e V1 ⟨rfl, hV1⟩
        obtain rfl := hV1.symm
        clear hV1
        refine ⟨_, rfl, fun _ => hS, ?_⟩
        simp only [Act.put, List.setIfInBounds_toArray, List.set_cons_zero, List.set_cons_succ]
        refine wpAnyK_takeTo 5 (some 64) (.bool true) [] rfl rfl (by kernel_rfl) (by kernel_rfl) (by kernel_rfl) (by kernel_rfl) (fun _ _ _ h => h) hS (Or.inl ⟨rfl, fun w1 hw1 => by go_simp⟩) ?_
        simp only [Act.put, List.setIfInBounds_toArray, List.set_cons_zero, List.set_cons_succ]
        refine wpAnyK_takeTo 6 (some 65) (.bool true) [] rfl rfl (by kernel_rfl) (by kernel_rfl) (by kernel_rfl) (by kernel_rfl) (fun _ _ _ h => h) hS (Or.inl ⟨rfl, fun w1 hw1 => by go_simp⟩) ?_
        simp only [Act.put, List.setIfInBounds_toArray, List.set_cons_zero, List.set_cons_succ]
        refine wpAnyK_takeTo 7 (some 66) (.pointer (some ⟨b, 0, none⟩)) [] rfl rfl (by kernel_rfl) (by kernel_rfl) (by kernel_rfl) (by kernel_rfl) (fun _ _ _ h => h) hS (Or.inl ⟨rfl, fun w1 hw1 => by go_simp⟩) ?_
        simp only [Act.put, List.setIfInBounds_toArray, List.set_cons_zero, List.set_cons_succ]
        refine wpAnyK_takeTo 9 (some 68) (.pointer (some ⟨bW, 1, none⟩)) [] rfl rfl (by kernel_rfl) (by kernel_rfl) (by kernel_rfl) (by kernel_rfl) (fun _ _ _ h => h) hS (Or.inl ⟨rfl, fun w1 hw1 => by go_simp⟩) ?_
        simp only [Act.put, List.setIfInBounds_toArray, List.set_cons_zero, List.set_cons_succ]
        refine wpAnyK_takeTo 10 (some 69) (.int .i64 m) [] rfl rfl (by kernel_rfl) (by kernel_rfl) (by kernel_rfl) (by kernel_rfl) (fun _ _ _ h => h) hS (Or.inl ⟨rfl, fun w1 hw1 => by have g0 := hw1.2.1; go_simp⟩) ?_
        simp only [Act.put, List.setIfInBounds_toArray, List.set_cons_zero, List.set_cons_succ]
        refine wpAnyK_one (i := 8) (by kernel_rfl) rfl rfl ?_
        refine wp_call_to (some 67) rfl 19 #[.pointer (some ⟨b, 0, none⟩)] (by go_simp) (markIn (HP9.out.keep (Fr.drew W9 (fun _ => False)))) ?_
        rintro e V1 ⟨rfl, hV1⟩
        obtain rfl := hV1.symm
        clear hV1
        refine ⟨_, rfl, fun _ => hS, ?_⟩
        simp only [Act.put, List.setIfInBounds_toArray, List.set_cons_zero, List.set_cons_succ]
        refine wpAnyK_takeTo 11 (some 70) (.bool true) [] rfl rfl (by kernel_rfl) (by kernel_rfl) (by kernel_rfl) (by kernel_rfl) (fun _ _ _ h => h) hS (Or.inl ⟨rfl, fun w1 hw1 => by go_simp⟩) ?_
        simp only [Act.put, List.setIfInBounds_toArray, List.set_cons_zero, List.set_cons_succ]
        refine wpAnyK_takeTo 12 (some 71) (.bool true) [] rfl rfl (by kernel_rfl) (by kernel_rfl) (by kernel_rfl) (by kernel_rfl) (fun _ _ _ h => h) hS (Or.inl ⟨rfl, fun w1 hw1 => by go_simp⟩) ?_
        simp only [Act.put, List.setIfInBounds_toArray, List.set_cons_zero, List.set_cons_succ]
        refine wpAnyK_takeTo 13 (some 72) (.bool true) [] rfl rfl (by kernel_rfl) (by kernel_rfl) (by kernel_rfl) (by kernel_rfl) (fun _ _ _ h => h) hS (Or.inl ⟨rfl, fun w1 hw1 => by go_simp⟩) ?_
        simp only [Act.put, List.setIfInBounds_toArray, List.set_cons_zero, List.set_cons_succ]
        refine wpAnyK_takeTo 14 (some 73) (.pointer (some ⟨b, 0, none⟩)) [] rfl rfl (by kernel_rfl) (by kernel_rfl) (by kernel_rfl) (by kernel_rfl) (fun _ _ _ h => h) hS (Or.inl ⟨rfl, fun w1 hw1 => by go_simp⟩) ?_
        simp only [Act.put, List.setIfInBounds_toArray, List.set_cons_zero, List.set_cons_succ]
        refine wpAnyK_takeTo 17 (some 76) (.slice a n c) [] rfl rfl (by kernel_rfl) (by kernel_rfl) (by kernel_rfl) (by kernel_rfl) (fun _ _ _ h => h) hS (Or.inl ⟨rfl, fun w1 hw1 => by go_simp⟩) ?_
        simp only [Act.put, List.setIfInBounds_toArray, List.set_cons_zero, List.set_cons_succ]
        refine wpAnyK_takeTo 18 (some 77) (.string (strOf l)) [] rfl rfl (by kernel_rfl) (by kernel_rfl) (by kernel_rfl) (by kernel_rfl) (fun _ _ _ h => h) hS (Or.inl ⟨rfl, fun w1 hw1 => exec_string (.tmp 76) rfl rfl hw1.2.2⟩) ?_
        simp only [Act.put, List.setIfInBounds_toArray, List.set_cons_zero, List.set_cons_succ]
        refine wpAnyK_one (i := 15) (by kernel_rfl) rfl rfl ?_
        refine wp_call_to (some 74) rfl 12 #[.pointer (some ⟨b, 0, none⟩)] (by go_simp) (bytesIn (HP9.out.keep (Fr.drew W9 (fun _ => False)))) ?_
        rintro e V1 ⟨rfl, hg1, f1⟩
        rw [HBO.out] at hg1
        have F1 : Fr W9 V1 (fun _ => False) := ((Fr.drew W9 (fun _ => False)).trans f1).mono (by simp)
        have hS := hSx V1 F1
        have hb1 := BI.block hg1 256 HL.out
        unfold recV
        refine ⟨_, rfl, fun _ => hS, ?_⟩
        simp only [Act.put, List.setIfInBounds_toArray, List.set_cons_zero, List.set_cons_succ]
        refine wpAnyK_one (i := 16) (by kernel_rfl) rfl rfl ?_
        refine wp_string (.tmp 74) rfl (some 75) rfl _ _ _ l rfl hb1 ?_
        simp only [Act.put, List.setIfInBounds_toArray, List.set_cons_zero, List.set_cons_succ]
        refine ⟨fun _ => hS, ?_⟩
        refine wpAnyK_takeTo 19 (some 78) (.bool true) [] rfl rfl (by kernel_rfl) (by kernel_rfl) (by kernel_rfl) (by kernel_rfl) (fun _ _ _ h => h) hS (Or.inl ⟨rfl, fun w1 hw1 => by go_simp⟩) ?_
        simp only [Act.put, List.setIfInBounds_toArray, List.set_cons_zero, List.set_cons_succ]
        refine wpAnyK_takeTo 20 (some 79) (.bool true) [] rfl rfl (by kernel_rfl) (by kernel_rfl) (by kernel_rfl) (by kernel_rfl) (fun _ _ _ h => h) hS (Or.inl ⟨rfl, fun w1 hw1 => by go_simp⟩) ?_
        simp only [Act.put, List.setIfInBounds_toArray, List.set_cons_zero, List.set_cons_succ]
        refine wpAnyK_takeTo 21 (some 2) (.bool true) [] rfl rfl (by kernel_rfl) (by kernel_rfl) (by kernel_rfl) (by kernel_rfl) (fun _ _ _ h => h) hS (Or.inl ⟨rfl, fun w1 hw1 => by go_simp⟩) ?_
        simp only [Act.put, List.setIfInBounds_toArray, List.set_cons_zero, List.set_cons_succ]
        refine wpAnyK_done (by kernel_rfl) ?_ _
        have HFE := hide (((HF4.out.trans HF8.out).trans F1).mono (Y := fun _ => False) (by simp))
        clear hS hSx F1 f1 hg1 hb1
        go_wp2
        go_ret
        exact ⟨rfl, HFE.out⟩
end Go.Proofs.Ytnkjknlacmeloaa
