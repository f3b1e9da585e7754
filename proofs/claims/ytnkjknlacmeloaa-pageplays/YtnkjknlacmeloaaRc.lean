/- The document's Add: a record more. -/
import Derived.Test.YtnkjknlacmeloaaRb
namespace Go.Proofs.Ytnkjknlacmeloaa
open Go.RowKit
set_option linter.unusedVariables false

set_option maxRecDepth 100000 in
set_option maxHeartbeats 2000000 in
theorem radd_ok (w : World) (v : Value) (R : List (List UInt8)) (m : Int) (s : List UInt8) (ho : OwnS w v R) (hfit : FitsP R) (hs : s.length ≤ 200) (hf : usedP R + (1 + s.length) ≤ 256) : Calls Try.prog 32 #[.agg #[v, .int .i64 m], .string (strOf s)] w fun e w' => ∃ v', e = .returned (.tuple #[.agg #[v', .int .i64 m], .int .i64 R.length, .int .i64 0]) ∧ OwnS w' v' (R ++ [s]) ∧ Fr w w' (fun _ => False) ∧ ∀ q, v'.ownBlock = some q → w.heap.size ≤ q := by
  obtain ⟨va, vc, rfl, _⟩ := ho.shape
  have hsz := size_strOf s
  have hus := hfit.used
  have hcnt := hfit.count
  have FA := up_two (w := w) (o1 := .cells #[.slice va R.length vc, .int .i64 m] 28) (o2 := .cells #[.slice none 0 0, .int .i64 0] 28)
  have HO := hide (ho.fr FA (fun _ _ h => h))
  have HFA := hide FA
  have HTP := hide ((two_of (heap_alloc_new w (.cells #[.slice va R.length vc, .int .i64 m] 28))).fr (Fr.alloc _ (.cells #[.slice none 0 0, .int .i64 0] 28) (fun _ => False)) (fun h => h))
  have HTR := hide (two_of (heap_alloc_new (w.alloc (.cells #[.slice va R.length vc, .int .i64 m] 28)) (.cells #[.slice none 0 0, .int .i64 0] 28)))
  have hf' : ¬ 256 < (usedP R : Int) + 1 + s.length := by omega
  clear ho FA
  go_enter Try.func32, Try.ntmps32
  go_wp2_with fail
  obtain ⟨W0, hW0⟩ : ∃ W0, W0 = (w.alloc (.cells #[.slice va R.length vc, .int .i64 m] 28)).alloc (.cells #[.slice none 0 0, .int .i64 0] 28) := ⟨_, rfl⟩
  obtain ⟨bP, hbP⟩ : ∃ bP, bP = w.heap.size := ⟨_, rfl⟩
  simp only [World.size_alloc] at HTR
  rw [← hW0] at HO HFA HTP HTR ⊢
  rw [← hbP] at HTP HTR ⊢
  have hbw : w.heap.size ≤ bP := by omega
  have hb0 : bP + 1 < W0.heap.size := by rw [hW0]; simp; omega
  clear hW0 hbP
  refine (used_any W0 _ R m HO.out hfit).mono ?_
  rintro e V ⟨rfl, f⟩
  have HV := hide f
  have tp := HTP.out.fr f (fun h => h)
  have HTP1 := hide tp
  have HTR1 := hide (HTR.out.fr f (fun h => h))
  have HO1 := hide ((HO.out.fr f (fun _ _ h => h)).fr (Fr.alloc V (.cells #[] 9) (fun _ => False)) (fun _ _ h => h))
  have HN1 := hide (own_builtS V)
  have c0 := tp.1
  have hsV := f.size
  have hbV : bP < V.heap.size := by omega
  have HFA1 := hide ((HFA.out.trans f).mono (Y := fun _ => False) (by simp))
  clear f tp HTP HTR HO HFA HV
  go_wp2_with (first | (refine wpList_catS rfl (.tmp 20) (.tmp 22) rfl (.slice (some ⟨V.heap.size, 0, none⟩) 0 0) [] rfl HN1.out _ R rfl HO1.out (by simp; omega) ?_; intro v5 w5 ho5 hf5 hr5; rw [List.nil_append] at ho5; have HO5 := hide ho5; have HF5 := hide hf5; have HR5 := hide hr5; clear ho5 hf5 hr5) | (refine wpList_pushS rfl (.tmp 24) (.tmp 26) rfl v5 R rfl HO5.out s _ rfl rfl (by omega) ?_; intro v6 w6 ho6 hf6 hr6; obtain ⟨g7, c7, hv7⟩ : ∃ g7 c7, v6 = .slice (some ⟨g7, 0, none⟩) (R.length + 1) c7 := (by rcases ho6.2 with ⟨_, h0⟩ | ⟨g', cap', cur', hv, _⟩; (simp at h0); exact ⟨g', cap', by simpa using hv⟩); subst hv7; have s5 := HF5.out.size; simp only [World.size_alloc] at s5; have u5 : ∀ q, v5.ownBlock = some q → V.heap.size ≤ q := HR5.out.le (by simp) (by intro q hq; simp [Value.ownBlock] at hq; omega); have u6 : V.heap.size ≤ g7 := hr6.le (by omega) u5 g7 rfl; have F6 : Fr V w6 (fun _ => False) := (((Fr.alloc V (.cells #[] 9) (fun _ => False)).trans HF5.out).trans hf6).mono (fun q hq h => by rcases h with (h | h) | h; exact h; (simp [Value.ownBlock] at h; omega); (have := u5 q h; omega)); have HTP6 := hide (HTP1.out.fr F6 (fun h => h)); have HTR6 := hide (HTR1.out.fr F6 (fun h => h)); have e0 := HTP6.out.1; have y0 := HTP6.out.2.2 0; have HO6 := hide ho6; have HF6 := hide F6; clear ho6 hf6 hr6 F6 HO5 HF5 HR5 u5))
  have FS := Fr.setCell w6 ⟨bP, 0, none⟩ (.slice (some ⟨g7, 0, none⟩) (R.length + 1) c7)
  have HTP7 := hide (HTP6.out.set0 (.slice (some ⟨g7, 0, none⟩) (R.length + 1) c7))
  have HTR7 := hide (HTR6.out.fr FS (fun h => by have h : bP + 1 = bP := h; omega))
  have HO7 := hide (HO6.out.fr FS (fun q hq h => by have h : q = bP := h; simp [Value.ownBlock] at hq; omega))
  have HF7 := hide (((HFA1.out.trans HF6.out).trans FS).mono (Y := fun _ => False) (fun q hq h => by rcases h with (h | h) | h; exact h; exact h; (have h : q = bP := h; omega)))
  generalize w6.setCell ⟨bP, 0, none⟩ (.slice (some ⟨g7, 0, none⟩) (R.length + 1) c7) = W7 at *
  clear FS c0 e0 y0 HTP6 HTR6 HO6 HF6 HTP1 HTR1 HO1 HN1 HFA1
  have t0 := HTP7.out.1
  have t1 := HTP7.out.2.1
  have r0 := HTR7.out.1
  have r1 := HTR7.out.2.1
  have z0 := HTR7.out.2.2 0
  have z1 := HTR7.out.2.2 1
  refine wp_region_K (fun _ => true) (fun V => V.cell? ⟨bP, 0, none⟩ = some (.slice (some ⟨g7, 0, none⟩) (R.length + 1) c7) ∧ V.cell? ⟨bP, 1, none⟩ = some (.int .i64 m)) (by kernel_rfl) ?_
  have hS : W7.drew.cell? ⟨bP, 0, none⟩ = some (.slice (some ⟨g7, 0, none⟩) (R.length + 1) c7) ∧ W7.drew.cell? ⟨bP, 1, none⟩ = some (.int .i64 m) := ⟨by simpa using t0, by simpa using t1⟩
  refine wpAnyK_takeTo 0 (some 29) (.agg #[.slice (some ⟨g7, 0, none⟩) (R.length + 1) c7, .int .i64 m]) [] rfl rfl (by kernel_rfl) (by kernel_rfl) (by kernel_rfl) (by kernel_rfl) (fun _ _ _ h => h) hS (Or.inl ⟨rfl, fun w1 hw1 => by obtain ⟨g0, g1⟩ := hw1; go_simp⟩) ?_
  simp only [Act.put, List.setIfInBounds_toArray, List.set_cons_zero, List.set_cons_succ]
  refine wpAnyK_takeTo 1 (some 30) (.pointer (some ⟨bP, 0, none⟩)) [] rfl rfl (by kernel_rfl) (by kernel_rfl) (by kernel_rfl) (by kernel_rfl) (fun _ _ _ h => h) hS (Or.inl ⟨rfl, fun w1 hw1 => by go_simp⟩) ?_
  simp only [Act.put, List.setIfInBounds_toArray, List.set_cons_zero, List.set_cons_succ]
  refine wpAnyK_takeTo 2 (some 31) (.slice (some ⟨g7, 0, none⟩) (R.length + 1) c7) [] rfl rfl (by kernel_rfl) (by kernel_rfl) (by kernel_rfl) (by kernel_rfl) (fun _ _ _ h => h) hS (Or.inl ⟨rfl, fun w1 hw1 => by obtain ⟨g0, g1⟩ := hw1; go_simp⟩) ?_
  simp only [Act.put, List.setIfInBounds_toArray, List.set_cons_zero, List.set_cons_succ]
  refine wpAnyK_takeTo 3 (some 32) (.int .i64 ((R.length : Int) + 1)) [] rfl rfl (by kernel_rfl) (by kernel_rfl) (by kernel_rfl) (by kernel_rfl) (fun _ _ _ h => h) hS (Or.inl ⟨rfl, fun w1 hw1 => by go_simp⟩) ?_
  simp only [Act.put, List.setIfInBounds_toArray, List.set_cons_zero, List.set_cons_succ]
  refine wpAnyK_takeTo 4 (some 33) (.int .i64 (R.length : Int)) [] rfl rfl (by kernel_rfl) (by kernel_rfl) (by kernel_rfl) (by kernel_rfl) (fun _ _ _ h => h) hS (Or.inl ⟨rfl, fun w1 hw1 => by go_simp; rw [IntKind.wrap_i64]; omega⟩) ?_
  simp only [Act.put, List.setIfInBounds_toArray, List.set_cons_zero, List.set_cons_succ]
  refine wpAnyK_one (i := 5) (by kernel_rfl) rfl rfl ?_
  go_simp
  have F8 : Fr W7 ((W7.setCell ⟨bP + 1, 0, none⟩ (.slice (some ⟨g7, 0, none⟩) (R.length + 1) c7)).setCell ⟨bP + 1, 1, none⟩ (.int .i64 m)).drew (fun q => q = bP + 1) := (((Fr.setCell W7 ⟨bP + 1, 0, none⟩ (.slice (some ⟨g7, 0, none⟩) (R.length + 1) c7)).trans (Fr.setCell _ ⟨bP + 1, 1, none⟩ (.int .i64 m))).trans (Fr.drew _ (fun _ => False))).mono (fun q hq h => by rcases h with (h | h) | h; exact h; exact h; exact h.elim)
  have HT8 := hide (((HTR7.out.set0 (.slice (some ⟨g7, 0, none⟩) (R.length + 1) c7)).set1 (.int .i64 m)).fr (Fr.drew _ (fun _ => False)) (fun h => h))
  have hP8 := HTP7.out.fr F8 (by omega)
  have HO8 := hide (HO7.out.fr F8 (fun q hq h => by simp [Value.ownBlock] at hq; omega))
  have HF8 := hide ((HF7.out.trans F8).mono (Y := fun _ => False) (fun q hq h => by rcases h with h | h; exact h; omega))
  generalize ((W7.setCell ⟨bP + 1, 0, none⟩ (.slice (some ⟨g7, 0, none⟩) (R.length + 1) c7)).setCell ⟨bP + 1, 1, none⟩ (.int .i64 m)).drew = W8 at *
  have hS8 : W8.cell? ⟨bP, 0, none⟩ = some (.slice (some ⟨g7, 0, none⟩) (R.length + 1) c7) ∧ W8.cell? ⟨bP, 1, none⟩ = some (.int .i64 m) := ⟨hP8.1, hP8.2.1⟩
  refine wpAnyK_takeTo 6 (some 5) (.int .i64 (R.length : Int)) [] rfl rfl (by kernel_rfl) (by kernel_rfl) (by kernel_rfl) (by kernel_rfl) (fun _ _ _ h => h) hS8 (Or.inl ⟨rfl, fun w1 hw1 => by go_simp⟩) ?_
  simp only [Act.put, List.setIfInBounds_toArray, List.set_cons_zero, List.set_cons_succ]
  refine wpAnyK_takeTo 7 (some 6) (.int .i64 0) [] rfl rfl (by kernel_rfl) (by kernel_rfl) (by kernel_rfl) (by kernel_rfl) (fun _ _ _ h => h) hS8 (Or.inl ⟨rfl, fun w1 hw1 => by go_simp⟩) ?_
  simp only [Act.put, List.setIfInBounds_toArray, List.set_cons_zero, List.set_cons_succ]
  refine wpAnyK_done (by kernel_rfl) ?_ _
  go_wp2
  refine bodyPost_ret (results_triple Try.results32 _ _ (bP + 1) HT8.out rfl) rfl ⟨_, rfl, HO8.out, HF8.out, ?_⟩
  intro q hq
  simp [Value.ownBlock] at hq
  omega
end Go.Proofs.Ytnkjknlacmeloaa
